"""What is told written as texts, and read back from them."""

from upanddowns.errors import NoText
from upanddowns.fraction import is_fraction, need_fraction
from upanddowns.loose import is_loose, need_loose
from upanddowns.orders import is_order, need_order
from upanddowns.patterns import is_pattern, need_pattern
from upanddowns.trees import is_tree, need_tree

# The numbers of fractions that are read have no more figures, and all others have fewer.
MOST_FIGURES = 9
NOTHING = "-"


def numbers_text(numbers, between):
    """Numbers written with a sign between each two."""
    return between.join([str(number) for number in numbers])


def order_text(order):
    """An order written."""
    need_order(order)
    return numbers_text(order, " ")


def pattern_text(pattern):
    """A pattern written."""
    need_pattern(pattern)
    return NOTHING if pattern == "" else pattern


def tree_text(tree):
    """A tree written."""
    need_tree(tree)
    return " ".join([numbers_text(pair, "/") for pair in tree])


def loose_text(loose):
    """A loose tree written."""
    need_loose(loose)
    return NOTHING if loose == () else numbers_text(loose, " ")


def fraction_text(x):
    """A fraction written."""
    need_fraction(x)
    return numbers_text(x[:1] if x[1] == 1 else x, "/")


def number_read(word, most):
    """The number that is written so, in at most so many figures, None where none is."""
    figures = word.removeprefix("-")
    if len(figures) < 1 or len(figures) > most:
        return None
    if not all(sign in "0123456789" for sign in figures):
        return None
    # A nought ahead, or - ahead of 0, is not written back.
    number = int(word)
    return number if str(number) == word else None


def numbers_read(text, between):
    """The numbers that are written with a sign between each two, None for each that is none."""
    return tuple(number_read(word, MOST_FIGURES) for word in text.split(between))


def need_text(thing):
    """Refuse what is no text."""
    if not isinstance(thing, str):
        raise NoText("this is no text")


def order_read(text):
    """The order that is written so."""
    need_text(text)
    order = numbers_read(text, " ")
    if not is_order(order):
        raise NoText("no order is written so")
    return order


def pattern_read(text):
    """The pattern that is written so."""
    need_text(text)
    if text == NOTHING:
        return ""
    if text == "" or not is_pattern(text):
        raise NoText("no pattern is written so")
    return text


def tree_read(text):
    """The tree that is written so."""
    need_text(text)
    tree = tuple(numbers_read(pair, "/") for pair in text.split(" "))
    if not is_tree(tree):
        raise NoText("no tree is written so")
    return tree


def loose_read(text):
    """The loose tree that is written so."""
    need_text(text)
    if text == NOTHING:
        return ()
    loose = numbers_read(text, " ")
    if not is_loose(loose):
        raise NoText("no loose tree is written so")
    return loose


def fraction_read(text):
    """The fraction that is written so."""
    need_text(text)
    x = numbers_read(text, "/")
    if len(x) == 1:
        x = x + (1,)
    elif x[1] == 1:
        raise NoText("a bottom of 1 is not written")
    if not is_fraction(x):
        raise NoText("no fraction is written so")
    return x

"""A desk that keeps an order, and answers rows of words with texts."""

from upanddowns.errors import NoDeed, NoLine, NoText
from upanddowns.loose import twin
from upanddowns.numbers import next_updown, number_of, updown_at
from upanddowns.orders import backward, contrary, turned_over, turns, without
from upanddowns.patterns import keeps, many_keep, order_at
from upanddowns.rings import ring_of
from upanddowns.sums import share
from upanddowns.texts import (fraction_text, loose_text, number_read, order_read, order_text, pattern_read,
                              pattern_text, tree_text)
from upanddowns.trees import is_full, tree_of
from upanddowns.triangle import many

MOST_FIGURES = 50

# What follows each first word: N a number, P a pattern.
DEEDS = {"up": "NN", "keep": "PN", "over": "", "backward": "", "contrary": "", "out": "N", "on": "", "back": ""}
QUESTIONS = {
    "order": "", "turns": "", "number": "", "keeps": "P", "many": "P", "ups": "N",
    "tree": "", "full": "", "twin": "", "ring": "", "share": "N",
}
# With the blank it is a deed, whatever stands behind it; alone, order is a question.
ORDER_DEED = "order "


def word_read(word, kind):
    """The number or the pattern that a word is."""
    if kind == "P":
        try:
            return pattern_read(word)
        except NoText:
            raise NoLine("this word is no pattern") from None
    number = number_read(word, MOST_FIGURES)
    if number is None or number < 0:
        raise NoLine("this word is no number from 0 on")
    return number


def row_read(row):
    """The first word of a row, and what is handed in with it."""
    if not isinstance(row, str):
        raise NoLine("a row is a text")
    if row.startswith(ORDER_DEED):
        return ORDER_DEED, [row.removeprefix(ORDER_DEED)]
    words = row.split(" ")
    kinds = DEEDS.get(words[0], QUESTIONS.get(words[0]))
    if kinds is None or len(words) != len(kinds) + 1:
        raise NoLine("no row has these words")
    return words[0], [word_read(word, kind) for word, kind in zip(words[1:], kinds)]


def next_order(kept):
    """The up-down behind the kept one."""
    order = next_updown(kept)
    if order is None:
        raise NoDeed("this is the last up-down")
    return order


def order_behind(kept, word, handed):
    """The order that is kept behind a deed other than back."""
    if word == ORDER_DEED:
        return order_read(handed[0])
    if word == "up":
        return updown_at(handed[0], handed[1])
    if word == "keep":
        return order_at(handed[0], handed[1])
    if word == "over":
        return turned_over(kept)
    if word == "backward":
        return backward(kept)
    if word == "contrary":
        return contrary(kept)
    if word == "out":
        return without(kept, handed[0])
    return next_order(kept)


def yes_or_no(truth):
    """A truth as a word."""
    return "yes" if truth else "no"


def answer(kept, word, handed):
    """What is answered to a question."""
    if word == "turns":
        return pattern_text(turns(kept))
    if word == "number":
        return str(number_of(kept))
    if word == "keeps":
        return yes_or_no(keeps(kept, handed[0]))
    if word == "many":
        return str(many_keep(handed[0]))
    if word == "ups":
        return str(many(handed[0]))
    if word == "tree":
        return tree_text(tree_of(kept))
    if word == "full":
        return yes_or_no(is_full(tree_of(kept)))
    if word == "twin":
        return loose_text(twin(kept))
    if word == "ring":
        return order_text(ring_of(kept))
    if word == "share":
        return fraction_text(share(handed[0]))
    return order_text(kept)


class Desk:
    """A desk: deeds change the order that it keeps, questions do not."""

    def __init__(self):
        # The first order, and behind it one for each deed that stands.
        self.orders = [(1,)]

    def say(self, row):
        """Do the deed or answer the question of a row."""
        word, handed = row_read(row)
        if word in QUESTIONS:
            return answer(self.orders[-1], word, handed)
        if word != "back":
            self.orders.append(order_behind(self.orders[-1], word, handed))
        elif len(self.orders) > 1:
            self.orders.pop()
        else:
            raise NoDeed("no deed stands")
        return order_text(self.orders[-1])

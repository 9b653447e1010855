"""What a desk is due to answer, told by the calls that its rows stand for."""

import re

from upanddowns.errors import NoDeed, NoLine, TurnError
from upanddowns.loose import twin
from upanddowns.numbers import next_updown, number_of, updown_at
from upanddowns.orders import backward, contrary, turned_over, turns, without
from upanddowns.patterns import keeps, many_keep, order_at
from upanddowns.rings import ring_of
from upanddowns.sums import share
from upanddowns.texts import fraction_text, loose_text, order_read, order_text, tree_text
from upanddowns.trees import is_full, tree_of
from upanddowns.triangle import many

# Each row that is known, by the words that it has: N a number, P a pattern.
FORMS = ("up N N", "keep P N", "over", "backward", "contrary", "out N", "on", "back", "order", "turns", "number",
         "keeps P", "many P", "ups N", "tree", "full", "twin", "ring", "share N")
QUESTIONS = ("order", "turns", "number", "keeps", "many", "ups", "tree", "full", "twin", "ring", "share")
KNOWN = re.compile("order .*|" + "|".join(
    form.replace("N", "(0|[1-9][0-9]{0,49})").replace("P", "(-|[ud?]{1,39})") for form in FORMS), re.DOTALL)


def pattern_of(word):
    return "" if word == "-" else word


def deed_told(kept, row):
    """The order that the calls tell of which a deed is due."""
    word, *rest = row.split(" ")
    if word == "order":
        return order_read(row[6:])
    if word == "up":
        return updown_at(int(rest[0]), int(rest[1]))
    if word == "keep":
        return order_at(pattern_of(rest[0]), int(rest[1]))
    if word == "out":
        return without(kept, int(rest[0]))
    if word != "on":
        return {"over": turned_over, "backward": backward, "contrary": contrary}[word](kept)
    order = next_updown(kept)
    if order is None:
        raise NoDeed("the last one")
    return order


def question_told(kept, row):
    """The text of what the calls tell of which an answer is due."""
    word, *rest = row.split(" ")
    asked = {
        "order": lambda: order_text(kept),
        "turns": lambda: turns(kept) or "-",
        "number": lambda: str(number_of(kept)),
        "keeps": lambda: "yes" if keeps(kept, pattern_of(rest[0])) else "no",
        "many": lambda: str(many_keep(pattern_of(rest[0]))),
        "ups": lambda: str(many(int(rest[0]))),
        "tree": lambda: tree_text(tree_of(kept)),
        "full": lambda: "yes" if is_full(tree_of(kept)) else "no",
        "twin": lambda: loose_text(twin(kept)),
        "ring": lambda: order_text(ring_of(kept)),
        "share": lambda: fraction_text(share(int(rest[0]))),
    }
    return asked[word]()


def told_otherwise(deeds, row):
    """What a desk is due to answer behind the deeds that stand, and the deeds that stand then."""
    if not KNOWN.fullmatch(row):
        raise NoLine(row)
    kept = (1,)
    for deed in deeds:
        kept = deed_told(kept, deed)
    if row.split(" ")[0] in QUESTIONS and not row.startswith("order "):
        return question_told(kept, row), deeds
    if row == "back":
        if not deeds:
            raise NoDeed(row)
        return told_otherwise(deeds[:-1], "order")[0], deeds[:-1]
    return order_text(deed_told(kept, row)), deeds + [row]


def refusal_of(asked, *handed):
    """The class with which it is refused, None where it is told."""
    try:
        asked(*handed)
    except TurnError as error:
        return type(error)
    return None

"""Patterns of turns, and the orders that keep them."""

from upanddowns.errors import NoPattern
from upanddowns.orders import MOST, need_order, turns
from upanddowns.whole import need_number

MOST_PLAIN = 11


def is_pattern(thing):
    """Whether a thing is a pattern."""
    if not isinstance(thing, str) or len(thing) >= MOST:
        return False
    return all(sign in "ud?" for sign in thing)


def need_pattern(thing):
    """Refuse what is no pattern."""
    if not is_pattern(thing):
        raise NoPattern("a pattern is a text of the signs u, d and ?")


def keeps(order, pattern):
    """Whether an order keeps a pattern."""
    need_order(order)
    need_pattern(pattern)
    if len(order) != len(pattern) + 1:
        return False
    return all(sign in ("?", turn) for sign, turn in zip(pattern, turns(order)))


def span(sign, below, how_many):
    """Which of so many numbers left, in rising order, a sign lets stand next.

    So many of them as below says are less than the number that stands ahead of the
    sign. Told are the first place that the sign allows, from 0, and the one behind the last.
    """
    if sign == "u":
        return below, how_many
    if sign == "d":
        return 0, below
    return 0, how_many


def ways_on(pattern):
    """For each place of the orders that keep a pattern, in how many ways they go on from it.

    The list of a place has, for how many of the numbers left are less than the one that
    is put there, in how many ways the places behind it can be filled. This alone counts,
    whatever stands ahead: so orders are counted without going through them.
    """
    ways = [[1]]
    for sign in reversed(pattern):
        behind = ways[-1]
        here = []
        for below in range(len(behind) + 1):
            first, end = span(sign, below, len(behind))
            here.append(sum(behind[first:end]))
        ways.append(here)
    return ways[::-1]


def many_keep(pattern):
    """How many orders keep a pattern."""
    need_pattern(pattern)
    return sum(ways_on(pattern)[0])


def order_at(pattern, number):
    """The order with a number among those that keep a pattern."""
    need_pattern(pattern)
    ways = ways_on(pattern)
    need_number(number, 0, sum(ways[0]) - 1)
    left = list(range(1, len(pattern) + 2))
    order = []
    skipped = 0
    below = 0
    # No number stands ahead of the first place: all may stand there, as behind a ?.
    for sign, counts in zip("?" + pattern, ways):
        below = span(sign, below, len(left))[0]
        while skipped + counts[below] <= number:
            skipped += counts[below]
            below += 1
        order.append(left.pop(below))
    return tuple(order)


def place_of(pattern, order):
    """The number of an order among those that keep a pattern, None where it keeps it not."""
    need_pattern(pattern)
    if not keeps(order, pattern):
        return None
    left = list(range(1, len(order) + 1))
    skipped = 0
    below = 0
    for sign, counts, number in zip("?" + pattern, ways_on(pattern), order):
        first = span(sign, below, len(left))[0]
        below = left.index(number)
        skipped += sum(counts[first:below])
        left.remove(number)
    return skipped


def plain_patterns(length):
    """All patterns of so many signs without ?, a rising list."""
    patterns = [""]
    while len(patterns[0]) < length:
        patterns = [pattern + sign for pattern in patterns for sign in "du"]
    return patterns


def all_patterns(n):
    """How many orders keep each pattern of n - 1 signs without ?."""
    need_number(n, 1, MOST_PLAIN)
    return {pattern: many_keep(pattern) for pattern in plain_patterns(n - 1)}


def mates(pattern):
    """The pattern, it with u and d changed about, it from behind, and both."""
    need_pattern(pattern)
    changed = pattern.translate(str.maketrans("ud", "du"))
    return sorted({pattern, changed, pattern[::-1], changed[::-1]})

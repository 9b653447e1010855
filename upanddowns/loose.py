"""Loose trees, in which each number but 1 has a lesser one as its upper, and their numbers."""

from upanddowns.errors import NoLoose
from upanddowns.numbers import number_of, updown_at
from upanddowns.orders import MOST
from upanddowns.whole import is_whole, need_number

MOST_LISTED = 7


def is_loose(thing):
    """Whether a thing is a loose tree."""
    if not isinstance(thing, tuple) or len(thing) >= MOST:
        return False
    if not all(is_whole(upper) for upper in thing):
        return False
    if not all(1 <= upper <= ahead for ahead, upper in enumerate(thing, start=1)):
        return False
    return all(thing.count(upper) <= 2 for upper in thing)


def need_loose(thing):
    """Refuse what is no loose tree."""
    if not is_loose(thing):
        raise NoLoose("a loose tree has a lesser upper for each number, none more than twice")


def ways_on(n):
    """In how many ways loose trees that are begun go on to n numbers.

    The list at place k, from 0, is that of trees begun with k + 1 numbers: it has, for
    how many of these have none under them, in how many ways the tree goes on. How many
    have one under them follows from it: numbers that have two under them are one fewer
    than those that have none. So trees are counted without going through them.
    """
    ways = [[1] * (n + 1)]
    for many in range(n - 1, 0, -1):
        behind = ways[-1]
        here = []
        for none in range(many + 1):
            # Where this comes to less than 0 no tree is so begun, and it is never asked for.
            one = max(0, many + 1 - 2 * none)
            here.append(none * behind[none] + one * behind[none + 1])
        ways.append(here)
    return ways[::-1]


def ways_by_upper(hung, counts):
    """For each number of a begun tree, in how many ways it goes on with one more under it.

    Hung has for each number, from 1 on, how many hang under it; counts is the list that
    ways_on has for trees begun with one number more.
    """
    none = hung.count(0)
    # Under a number that has two no more are hung.
    by_hung = (counts[none], counts[none + 1], 0)
    return [by_hung[many] for many in hung]


def loose_many(n):
    """How many loose trees of n there are."""
    need_number(n, 1, MOST)
    return ways_on(n)[0][1]


def loose_at(n, number):
    """The loose tree of n that has a number."""
    need_number(n, 1, MOST)
    ways = ways_on(n)
    need_number(number, 0, ways[0][1] - 1)
    loose = []
    hung = [0]
    skipped = 0
    for counts in ways[1:]:
        by_upper = ways_by_upper(hung, counts)
        at = 0
        while skipped + by_upper[at] <= number:
            skipped += by_upper[at]
            at += 1
        loose.append(at + 1)
        hung[at] += 1
        hung.append(0)
    return tuple(loose)


def loose_number(loose):
    """The number of a loose tree among those of as many numbers."""
    need_loose(loose)
    hung = [0]
    skipped = 0
    for upper, counts in zip(loose, ways_on(len(loose) + 1)[1:]):
        skipped += sum(ways_by_upper(hung, counts)[:upper - 1])
        hung[upper - 1] += 1
        hung.append(0)
    return skipped


def all_loose(n):
    """All loose trees of n, a rising list."""
    need_number(n, 1, MOST_LISTED)
    return [loose_at(n, number) for number in range(loose_many(n))]


def twin(order):
    """The loose tree that has the number of an up-down."""
    number = number_of(order)
    return loose_at(len(order), number)


def twin_of(loose):
    """The up-down whose twin a loose tree is."""
    number = loose_number(loose)
    return updown_at(len(loose) + 1, number)

"""Trees in which each number hangs under a greater one, and the orders that are read of them."""

from upanddowns.ends import ways_with
from upanddowns.errors import NoTree
from upanddowns.orders import MOST, is_updown, need_order
from upanddowns.whole import is_pair, need_number


def is_tree(thing):
    """Whether a thing is a tree."""
    if not isinstance(thing, tuple) or len(thing) < 1 or len(thing) > MOST:
        return False
    if not all(is_pair(pair) for pair in thing):
        return False
    hung = [number for pair in thing for number in pair if number != 0]
    if sorted(hung) != list(range(1, len(thing))):
        return False
    return all(max(pair) < number for number, pair in enumerate(thing, start=1))


def need_tree(thing):
    """Refuse what is no tree."""
    if not is_tree(thing):
        raise NoTree("a tree has for each number those that hang left and right under it")


def order_of(tree):
    """The order that is read of a tree."""
    need_tree(tree)
    # What hangs under a number is less than it, so it has been read ahead of it.
    read = [()]
    for number, (left, right) in enumerate(tree, start=1):
        read.append(read[left] + (number,) + read[right])
    return read[-1]


def greatest_below(numbers, limit):
    """The greatest of the numbers ahead of the first one above a limit, 0 where there are none."""
    greatest = 0
    for number in numbers:
        if number > limit:
            break
        greatest = max(greatest, number)
    return greatest


def tree_of(order):
    """The tree of which an order is read."""
    need_order(order)
    tree = []
    for number in range(1, len(order) + 1):
        at = order.index(number)
        # All that stands beside a number, up to the next greater one, hangs under it.
        left = greatest_below(order[:at][::-1], number)
        right = greatest_below(order[at + 1:], number)
        tree.append((left, right))
    return tuple(tree)


def is_full(tree):
    """Whether a tree is full."""
    # Two hang under a number that is greater than both beside it, none under one that is
    # less than what stands beside it: in a full tree these stand by turns.
    return is_updown(order_of(tree))


def full_by_left(n):
    """How many full trees of n have 0, 1, 2 and so on to n - 1 numbers on the left under n."""
    need_number(n, 1, MOST)
    # What hangs left under n is what stands ahead of it in the up-down that is read.
    return [ways_with(n, place, n) for place in range(1, n + 1)]

"""The up-downs by number, there and back."""

from upanddowns.orders import MOST, need_updown
from upanddowns.patterns import order_at, place_of
from upanddowns.triangle import many
from upanddowns.whole import need_number

MOST_LISTED = 8


def updown_pattern(n):
    """The pattern that the up-downs of n numbers, and no other orders, keep."""
    return ("ud" * n)[:n - 1]


def updown_at(n, number):
    """The up-down of n numbers that has a number."""
    need_number(n, 1, MOST)
    return order_at(updown_pattern(n), number)


def number_of(updown):
    """The number of an up-down among those of as many numbers."""
    need_updown(updown)
    return place_of(updown_pattern(len(updown)), updown)


def next_updown(updown):
    """The up-down behind an up-down, None behind the last."""
    number = number_of(updown)
    if number == many(len(updown)) - 1:
        return None
    return updown_at(len(updown), number + 1)


def ahead_of(updown):
    """The up-down ahead of an up-down, None of the first."""
    number = number_of(updown)
    if number == 0:
        return None
    return updown_at(len(updown), number - 1)


def all_updowns(n):
    """All up-downs of n numbers, a rising list."""
    need_number(n, 1, MOST_LISTED)
    return [updown_at(n, number) for number in range(many(n))]

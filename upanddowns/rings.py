"""Rings that go up and down by turns, and what stands side by side in them."""

from upanddowns.ends import MOST_ENDS, many_between
from upanddowns.errors import NoNumber, NoRing, NotUpDown
from upanddowns.numbers import number_of, updown_at
from upanddowns.orders import MOST, backward, is_downup, need_updown, order_of, turned_over
from upanddowns.triangle import all_many
from upanddowns.whole import need_number


def is_ring(thing):
    """Whether a thing is a ring."""
    # From the last one to the first, the greatest, it goes up by itself.
    return is_downup(thing) and len(thing) % 2 == 0 and thing[0] == len(thing)


def need_ring(thing):
    """Refuse what is no ring."""
    if not is_ring(thing):
        raise NoRing("a ring has an even number of numbers, the greatest ahead, and goes down and up")


def need_even(n, most):
    """Refuse what is no even number from 2 to most."""
    need_number(n, 2, most)
    if n % 2 == 1:
        raise NoNumber("the number is not even")


def row_of_ring(ring):
    """The up-down that stands behind the greatest number of a ring."""
    need_ring(ring)
    return ring[1:]


def ring_of(order):
    """The ring in which an up-down stands behind the greatest number."""
    need_updown(order)
    if len(order) % 2 == 0:
        raise NotUpDown("behind the greatest number of a ring stands an odd number of numbers")
    return (len(order) + 1,) + order


def other_way(ring):
    """The ring gone about the other way."""
    return ring_of(backward(row_of_ring(ring)))


def ring_over(ring):
    """The ring turned over, led on so that the greatest number is ahead."""
    need_ring(ring)
    over = turned_over(ring)
    at = over.index(len(ring))
    return over[at:] + over[:at]


def rings_many(n):
    """How many rings of n numbers there are."""
    need_even(n, MOST)
    return all_many(n - 1)[-1]


def ring_at(n, number):
    """The ring of n numbers that has a number."""
    need_even(n, MOST)
    # All rings of n begin alike, so they compare as what stands behind n.
    return ring_of(updown_at(n - 1, number))


def ring_number(ring):
    """The number of a ring among those of as many numbers."""
    return number_of(row_of_ring(ring))


def cut(ring, place, many):
    """The order of so many numbers of a ring, one behind the other from a place on."""
    need_ring(ring)
    need_number(place, 1, len(ring))
    need_number(many, 1, len(ring))
    twice_about = ring + ring
    return order_of(twice_about[place - 1:place - 1 + many])


def side_by_side(n, one, other):
    """In how many rings of n two unlike numbers stand side by side."""
    need_even(n, MOST_ENDS)
    need_number(one, 1, n)
    need_number(other, 1, n)
    if one == other:
        raise NoNumber("the numbers are alike")
    if n == 2:
        # The one ring is the same where it is gone about the other way.
        return 1
    # Cut between the two, a ring is an up-down from the lesser to the greater one; the
    # greater one stands behind the lesser one as often as ahead of it.
    return 2 * many_between(n, min(one, other), max(one, other))

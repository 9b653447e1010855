"""Orders, their turns, and what is made of an order."""

from upanddowns.errors import NoNumber, NoOrder, NoRow, NotUpDown
from upanddowns.whole import is_whole, need_number

MOST = 40


def is_whole_tuple(thing):
    """Whether a thing is a tuple of one to forty whole numbers."""
    if not isinstance(thing, tuple):
        return False
    if len(thing) < 1 or len(thing) > MOST:
        return False
    return all(is_whole(number) for number in thing)


def is_order(thing):
    """Whether a thing is an order."""
    if not is_whole_tuple(thing):
        return False
    return sorted(thing) == list(range(1, len(thing) + 1))


def is_row(thing):
    """Whether a thing is a row of unlike whole numbers."""
    return is_whole_tuple(thing) and len(set(thing)) == len(thing)


def need_order(thing):
    """Refuse what is no order."""
    if not is_order(thing):
        raise NoOrder("an order is a tuple of the numbers from 1 on, each once")


def need_row(thing):
    """Refuse what is no row."""
    if not is_row(thing):
        raise NoRow("a row is a tuple of unlike whole numbers")


def turns(order):
    """The turns of an order: u where the next number is greater, d where it is less."""
    need_order(order)
    return "".join("u" if number < behind else "d" for number, behind in zip(order, order[1:]))


def goes_by_turns(thing, both):
    """Whether a thing is an order whose turns are the two signs of both, again and again."""
    if not is_order(thing):
        return False
    return turns(thing) == (both * len(thing))[:len(thing) - 1]


def is_updown(thing):
    """Whether a thing is an up-down."""
    return goes_by_turns(thing, "ud")


def is_downup(thing):
    """Whether a thing is a down-up."""
    return goes_by_turns(thing, "du")


def need_updown(thing):
    """Refuse what is no up-down."""
    if not is_updown(thing):
        raise NotUpDown("an up-down is an order that goes up, down, up, down and so on")


def turned_over(order):
    """The order with each number taken from how many there are and one."""
    need_order(order)
    return tuple(len(order) + 1 - number for number in order)


def backward(order):
    """The order from behind."""
    need_order(order)
    return order[::-1]


def contrary(order):
    """The order that has at place k the place at which k stands."""
    need_order(order)
    return tuple(order.index(number) + 1 for number in range(1, len(order) + 1))


def order_of(row):
    """The order of a row: at each place how many of its numbers are no greater."""
    need_row(row)
    rising = sorted(row)
    return tuple(rising.index(number) + 1 for number in row)


def without(order, number):
    """The order that is left where a number is taken out, each greater one less by one."""
    need_order(order)
    need_number(number, 1, len(order))
    if len(order) == 1:
        # Nothing would be left, and an order has at least one number.
        raise NoNumber("the only number is not taken out")
    return tuple(other - 1 if other > number else other for other in order if other != number)

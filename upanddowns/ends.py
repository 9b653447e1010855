"""How many up-downs there are, told what stands first, last and between."""

from upanddowns.choosing import choose
from upanddowns.numbers import all_updowns
from upanddowns.triangle import row
from upanddowns.whole import need_number

MOST_ENDS = 30


def by_last(counts, up):
    """For each new last number, how many orders there are that are led on by it.

    The counts have for each number, from 1 on, how many of the orders end with it. Where
    a new number is put behind an order, all that are no less than it grow by one. So it
    goes up to the new one where the last one was less, and down where it was no less.
    """
    sums = [0]
    for count in counts:
        sums.append(sums[-1] + count)
    return sums if up else [sums[-1] - below for below in sums]


def led_on(table, up):
    """The table of first and last numbers of the orders that have one number more."""
    by_first = [by_last(counts, up) for counts in table]
    led = []
    for first in range(len(table) + 1):
        led.append([])
        for last in range(len(table) + 1):
            # A first number that is greater than the new last one has grown by one.
            was_first = first if first < last else first - 1
            led[-1].append(0 if first == last else by_first[was_first][last])
    return led


def table_of_ends(n):
    """For each first number and each last one, how many up-downs of n so begin and end."""
    table = [[1]]
    for length in range(1, n):
        table = led_on(table, length % 2 == 1)
    return table


def many_between(n, first, last):
    """How many up-downs of n begin with one number and end with another one."""
    need_number(n, 1, MOST_ENDS)
    need_number(first, 1, n)
    need_number(last, 1, n)
    return table_of_ends(n)[first - 1][last - 1]


def ways_with(n, place, number):
    """How many up-downs of n have a number at a place.

    From an odd place an up-down goes up to both sides, from an even one down. So both
    sides, each read from that place on, are counted by a row of the triangle; the row
    from behind counts those that go down.
    """
    step = 1 if place % 2 == 1 else -1
    ahead = row(place)[::step]
    behind = row(n + 1 - place)[::step]
    found = 0
    # Ahead stand some of the lesser numbers; greater ones fill the other places there.
    for lesser in range(max(0, place + number - 1 - n), min(place, number)):
        chosen = choose(number - 1, lesser) * choose(n - number, place - 1 - lesser)
        found += chosen * ahead[lesser] * behind[number - 1 - lesser]
    return found


def many_with(n, place, number):
    """How many up-downs of n have a number at a place."""
    need_number(n, 1, MOST_ENDS)
    need_number(place, 1, n)
    need_number(number, 1, n)
    return ways_with(n, place, number)


def numbers_at(n, place):
    """For each number from 1 to n, how many up-downs of n have it at a place."""
    need_number(n, 1, MOST_ENDS)
    need_number(place, 1, n)
    return [ways_with(n, place, number) for number in range(1, n + 1)]


def by_ends(n):
    """For each first and last number together, the up-downs of n that so begin and end."""
    found = {}
    for updown in all_updowns(n):
        found.setdefault((updown[0], updown[-1]), []).append(updown)
    return found

"""Sums over how many up-downs there are, and numbers that come to nought together."""

from upanddowns.choosing import choose
from upanddowns.fraction import lowest, need_fraction
from upanddowns.triangle import MOST_ROWS, all_many
from upanddowns.whole import need_number

MOST_SUMMED = 30
MOST_SIGNED = 40


def many_from_nought(n):
    """How many up-downs there are of 0, of 1 and so on to n numbers, 1 of 0."""
    return [1] if n == 0 else [1] + all_many(n)


def parts(n):
    """For each k from 0 to n: the ways to choose k of n, times the up-downs of k and of n - k."""
    need_number(n, 0, MOST_ROWS)
    counts = many_from_nought(n)
    return [choose(n, k) * counts[k] * counts[n - k] for k in range(n + 1)]


def sum_to(x, n):
    """The sum, for k from 0 to n, of the up-downs of k times x to the power k, divided by 1 to k."""
    need_fraction(x)
    need_number(n, 0, MOST_SUMMED)
    counts = many_from_nought(n)
    top = bottom = power = 1
    for k in range(1, n + 1):
        # All summed so far is brought to the bottom of what is added now.
        bottom = bottom * x[1] * k
        power = power * x[0]
        top = top * x[1] * k + counts[k] * power
    return lowest(top, bottom)


def next_share(shares):
    """The share behind those of 0, of 1 and so on."""
    n = len(shares)
    top, bottom = 0, 1
    for k, (over, under) in enumerate(shares):
        top, bottom = lowest(top * under + choose(n + 1, k) * over * bottom, bottom * under)
    # n + 1 times the new one makes up for all others.
    return lowest(-top, bottom * (n + 1))


def share(n):
    """The even share of n, a fraction."""
    need_number(n, 0, MOST_ROWS)
    shares = [(1, 1)]
    while len(shares) <= n:
        shares.append(next_share(shares))
    return shares[-1]


def signed_row(n):
    """The signed row of n: 1, then 0 at odd places, and what brings the sums to 0 at even ones."""
    need_number(n, 0, MOST_SIGNED)
    numbers = [1]
    for k in range(1, n + 1):
        ahead = sum([choose(k, j) * number for j, number in enumerate(numbers)])
        numbers.append(-ahead if k % 2 == 0 else 0)
    return numbers

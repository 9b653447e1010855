"""The triangle that tells how many up-downs there are, by the number that they begin with."""

from upanddowns.whole import need_number

MOST_ROWS = 60


def row_behind(ahead):
    """The row that stands behind a row of the triangle."""
    sums = [0]
    for number in ahead:
        sums.append(sums[-1] + number)
    return sums[::-1]


def rows_to(n):
    """The rows of 1, of 2 and so on to n."""
    need_number(n, 1, MOST_ROWS)
    rows = [[1]]
    while len(rows) < n:
        rows.append(row_behind(rows[-1]))
    return rows


def row(n):
    """For each number from 1 to n, how many up-downs of n numbers begin with it."""
    return rows_to(n)[-1]


def many(n):
    """How many up-downs of n numbers there are."""
    return sum(row(n))


def all_many(n):
    """How many up-downs there are of 1, of 2 and so on to n numbers."""
    return [sum(numbers) for numbers in rows_to(n)]


def falls(n):
    """How much each number of the row of n, but the first, is less than the one ahead."""
    numbers = row(n)
    return [ahead - number for ahead, number in zip(numbers, numbers[1:])]


def table(n):
    """The rows of 1, of 2 and so on to n, each second one from behind."""
    rows = rows_to(n)
    return [numbers[::-1] if len(numbers) % 2 == 0 else numbers for numbers in rows]

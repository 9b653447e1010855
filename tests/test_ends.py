import unittest
from functools import lru_cache

from anything import GREAT, refused, told_anew, up_downs, wrong_numbers
from upanddowns import ends
from upanddowns.ends import by_ends, many_between, many_with, numbers_at
from upanddowns.errors import NoNumber
from upanddowns.triangle import many, row


def between_otherwise(n, first, last):
    """How many begin and end so, reckoned otherwise: from the first on, by what is left below,
    between and above the number reached and the last one."""
    if first == last:
        return 1 if n == 1 else 0
    below, above = min(first, last) - 1, n - max(first, last)
    return ways_to_last(below, n - 2 - below - above, above, first < last, True)


@lru_cache(maxsize=None)
def ways_to_last(below, between, above, lesser, up):
    """Lesser says whether the number reached is less than the last one, up where it goes next."""
    if below + between + above == 0:
        return 1 if lesser == up else 0
    if not up:
        # Turned over, it is the same but for the names.
        return ways_to_last(above, between, below, not lesser, True)
    if not lesser:
        # What is taken stands above both; it leaves those ahead of it between.
        return sum(ways_to_last(below, between + at, above - 1 - at, False, False) for at in range(above))
    found = sum(ways_to_last(below + at, between - 1 - at, above, True, False) for at in range(between))
    return found + sum(ways_to_last(below + between, at, above - 1 - at, False, False) for at in range(above))


def with_otherwise(n, place):
    """The numbers at a place, reckoned otherwise: by the place in size of the one that stands
    there and of the last one, while an order grows behind."""
    counts = {(1, 1): 1}
    for length in range(2, n + 1):
        grown = {}
        for (marked, last), count in counts.items():
            for new in range(1, length + 1):
                if (new > last) == (length % 2 == 0):
                    here = new if length <= place else marked + (marked >= new)
                    grown[here, new] = grown.get((here, new), 0) + count
        counts = grown
    return [sum(counts.get((number, last), 0) for last in range(1, n + 1)) for number in range(1, n + 1)]


class InterfaceTest(unittest.TestCase):
    def test_each_function_is_defined_in_its_file(self):
        for asked in (many_between, many_with, numbers_at, by_ends):
            self.assertIs(getattr(ends, asked.__name__), asked)
            self.assertEqual(asked.__module__, "upanddowns.ends")


class Point50Test(unittest.TestCase):
    def test_ordinary_ones(self):
        self.assertEqual(many_between(3, 1, 2), 1)
        self.assertEqual(many_between(3, 2, 1), 1)
        self.assertEqual(many_between(3, 1, 3), 0)
        self.assertEqual(many_between(4, 1, 4), 1)
        self.assertEqual(many_between(4, 4, 1), 0)
        self.assertEqual(many_between(5, 2, 3), 2)
        self.assertEqual(many_between(5, 2, 4), 1)

    def test_one_number_is_first_and_last(self):
        self.assertEqual(many_between(1, 1, 1), 1)

    def test_nought_where_both_are_alike(self):
        for n in range(2, 31):
            self.assertEqual([many_between(n, a, a) for a in range(1, n + 1)], [0] * n)

    def test_small_ones_by_going_through_all_orders(self):
        for n in range(1, 9):
            found = [(order[0], order[-1]) for order in up_downs(n)]
            for a in range(1, n + 1):
                for b in range(1, n + 1):
                    told = many_between(n, a, b)
                    self.assertIs(type(told), int)
                    self.assertEqual(told, found.count((a, b)))

    def test_greater_ones_are_told_at_once(self):
        for n in (9, 12, 15, 29, 30):
            for a in range(1, n + 1, 3):
                for b in list(range(1, n + 1, 4)) + [n]:
                    self.assertEqual(many_between(n, a, b), between_otherwise(n, a, b))

    def test_all_last_ones_come_to_what_begins_so(self):
        for n in (10, 29, 30):
            for a in (1, 2, 7, n // 2, n - 1, n):
                self.assertEqual(sum(many_between(n, a, b) for b in range(1, n + 1)), row(n)[a - 1])

    def test_wrong_things_are_refused(self):
        for thing in wrong_numbers() + [0]:
            for a, b in ((1, 1), (0, 0), (None, 1), (True, "1"), ([1], {}), (GREAT, -1)):
                refused(self, NoNumber, many_between, thing, a, b)
            for n in (1, 2, 5, 30):
                for other in (1, n, 0, None, "1", [n], GREAT):
                    refused(self, NoNumber, many_between, n, thing, other)
                refused(self, NoNumber, many_between, n, 1, thing)
                refused(self, NoNumber, many_between, n, n, thing)

    def test_numbers_just_outside_are_refused(self):
        for n in (31, 32, 40, 60):
            refused(self, NoNumber, many_between, n, 1, 2)
        for n in (1, 2, 5, 29, 30):
            for a, b in ((n + 1, 1), (1, n + 1), (0, 1), (1, 0), (n, n + 1), (n + 1, n), (-1, n)):
                refused(self, NoNumber, many_between, n, a, b)


class Point51Test(unittest.TestCase):
    def test_ordinary_ones(self):
        self.assertEqual(many_with(1, 1, 1), 1)
        self.assertEqual([many_with(2, place, number) for place in (1, 2) for number in (1, 2)], [1, 0, 0, 1])
        self.assertEqual(many_with(3, 2, 3), 2)
        self.assertEqual(many_with(3, 2, 2), 0)
        self.assertEqual(many_with(4, 3, 2), 2)

    def test_small_ones_by_going_through_all_orders(self):
        for n in range(1, 9):
            known = up_downs(n)
            for place in range(1, n + 1):
                here = [order[place - 1] for order in known]
                for number in range(1, n + 1):
                    told = many_with(n, place, number)
                    self.assertIs(type(told), int)
                    self.assertEqual(told, here.count(number))

    def test_great_ones_are_told_at_once(self):
        for n in (9, 29, 30):
            for place in (1, 2, 3, n // 2, n // 2 + 1, n - 1, n):
                known = with_otherwise(n, place)
                self.assertEqual([many_with(n, place, number) for number in range(1, n + 1)], known)

    def test_each_number_stands_at_some_place(self):
        for n in (11, 29, 30):
            for number in (1, 2, n // 2, n):
                self.assertEqual(sum(many_with(n, place, number) for place in range(1, n + 1)), many(n))

    def test_wrong_things_are_refused(self):
        for thing in wrong_numbers() + [0]:
            for place, number in ((1, 1), (0, 0), (None, 1), (True, "1"), ([1], {}), (GREAT, -1)):
                refused(self, NoNumber, many_with, thing, place, number)
            for n in (1, 2, 5, 30):
                for other in (1, n, 0, None, "1", [n], GREAT):
                    refused(self, NoNumber, many_with, n, thing, other)
                refused(self, NoNumber, many_with, n, 1, thing)
                refused(self, NoNumber, many_with, n, n, thing)

    def test_numbers_just_outside_are_refused(self):
        for n in (31, 32, 40, 60):
            refused(self, NoNumber, many_with, n, 1, 1)
        for n in (1, 2, 5, 29, 30):
            for place, number in ((n + 1, 1), (1, n + 1), (0, 1), (1, 0), (n, n + 1), (n + 1, n), (-1, n)):
                refused(self, NoNumber, many_with, n, place, number)


class Point52Test(unittest.TestCase):
    def test_ordinary_ones(self):
        self.assertEqual(numbers_at(1, 1), [1])
        self.assertEqual(numbers_at(2, 1), [1, 0])
        self.assertEqual(numbers_at(2, 2), [0, 1])
        self.assertEqual([numbers_at(4, place) for place in (1, 2, 3, 4)],
                         [[2, 2, 1, 0], [0, 0, 2, 3], [3, 2, 0, 0], [0, 1, 2, 2]])

    def test_all_of_them_are_those_of_each_number(self):
        for n in (1, 2, 3, 8, 17, 30):
            for place in range(1, n + 1):
                told = numbers_at(n, place)
                self.assertIs(type(told), list)
                self.assertEqual(told, [many_with(n, place, number) for number in range(1, n + 1)])
                self.assertEqual(sum(told), many(n))

    def test_the_first_and_the_last_place(self):
        for n in range(1, 31):
            self.assertEqual(numbers_at(n, 1), row(n))
            self.assertEqual(numbers_at(n, n), row(n) if n % 2 == 1 else row(n)[::-1])

    def test_wrong_things_are_refused(self):
        for thing in wrong_numbers() + [0, 31, 32, 40, 60]:
            for place in (1, 0, None, True, "1", [1], GREAT):
                refused(self, NoNumber, numbers_at, thing, place)
        for n in (1, 2, 5, 30):
            for thing in wrong_numbers() + [0, n + 1, n + 2]:
                refused(self, NoNumber, numbers_at, n, thing)

    def test_told_anew(self):
        for n, place in ((1, 1), (2, 2), (7, 3), (30, 16)):
            told_anew(self, numbers_at, n, place)


class Point53Test(unittest.TestCase):
    def test_ordinary_ones(self):
        self.assertEqual(by_ends(1), {(1, 1): [(1,)]})
        self.assertEqual(by_ends(2), {(1, 2): [(1, 2)]})
        self.assertEqual(by_ends(3), {(1, 2): [(1, 3, 2)], (2, 1): [(2, 3, 1)]})
        self.assertEqual(by_ends(5)[2, 3], [(2, 4, 1, 5, 3), (2, 5, 1, 4, 3)])
        self.assertEqual(by_ends(5)[2, 4], [(2, 3, 1, 5, 4)])
        self.assertNotIn((2, 2), by_ends(5))

    def test_all_of_one_to_eight(self):
        for n in range(1, 9):
            found = {}
            for order in up_downs(n):
                found.setdefault((order[0], order[-1]), []).append(order)
            told = by_ends(n)
            self.assertIs(type(told), dict)
            self.assertEqual(told, found)
            for (a, b), known in told.items():
                self.assertEqual(len(known), many_between(n, a, b))

    def test_wrong_numbers_are_refused(self):
        for thing in wrong_numbers() + [0, 9, 10, 30]:
            refused(self, NoNumber, by_ends, thing)

    def test_told_anew_with_the_lists_within(self):
        for n in (1, 2, 5, 8):
            told_anew(self, by_ends, n)


if __name__ == "__main__":
    unittest.main()

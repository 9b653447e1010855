import unittest
from math import comb

from anything import refused, told_anew, up_downs, wrong_numbers
from upanddowns import triangle
from upanddowns.errors import NoNumber
from upanddowns.triangle import all_many, falls, many, row, table

ALL = (row, many, all_many, falls, table)


def many_by_choosing(most):
    """How many there are of 0 to most numbers, reckoned otherwise: by where the greatest stands."""
    found = [1, 1]
    for n in range(1, most):
        both = sum(comb(n, k) * found[k] * found[n - k] for k in range(n + 1))
        found.append(both // 2)
    return found


class InterfaceTest(unittest.TestCase):
    def test_each_function_is_defined_in_its_file(self):
        for asked in ALL:
            self.assertIs(getattr(triangle, asked.__name__), asked)
            self.assertEqual(asked.__module__, "upanddowns.triangle")


class Point20Test(unittest.TestCase):
    def test_first_rows(self):
        self.assertEqual(row(1), [1])
        self.assertEqual(row(2), [1, 0])
        self.assertEqual(row(3), [1, 1, 0])
        self.assertEqual(row(4), [2, 2, 1, 0])
        self.assertEqual(row(5), [5, 5, 4, 2, 0])

    def test_small_rows_by_going_through_all_orders(self):
        for n in range(1, 9):
            first = [order[0] for order in up_downs(n)]
            self.assertEqual(row(n), [first.count(number) for number in range(1, n + 1)])

    def test_great_rows_are_told_at_once(self):
        known = many_by_choosing(60)
        for n in range(2, 61):
            numbers = row(n)
            self.assertIs(type(numbers), list)
            self.assertEqual(len(numbers), n)
            self.assertEqual((numbers[0], numbers[-1], sum(numbers)), (known[n - 1], 0, known[n]))

    def test_wrong_numbers_are_refused(self):
        for asked in ALL:
            for thing in wrong_numbers() + [0, 61, 62, 100]:
                refused(self, NoNumber, asked, thing)

    def test_told_anew(self):
        for n in (1, 2, 5, 60):
            told_anew(self, row, n)


class Point21Test(unittest.TestCase):
    def test_a_row_comes_from_the_row_ahead(self):
        for n in range(2, 61):
            ahead = row(n - 1)
            self.assertEqual(row(n), [sum(ahead[:n - at]) for at in range(1, n + 1)])

    def test_how_many(self):
        self.assertEqual([many(n) for n in range(1, 11)], [1, 1, 2, 5, 16, 61, 272, 1385, 7936, 50521])
        for n in range(1, 9):
            self.assertEqual(many(n), len(up_downs(n)))

    def test_how_many_up_to_sixty_is_told_at_once(self):
        known = many_by_choosing(60)
        for n in range(1, 61):
            self.assertEqual(many(n), known[n])
            self.assertEqual(all_many(n), known[1:n + 1])

    def test_the_list(self):
        self.assertEqual(all_many(1), [1])
        self.assertEqual(all_many(6), [1, 1, 2, 5, 16, 61])

    def test_told_anew(self):
        for n in (1, 7, 60):
            told_anew(self, all_many, n)


class Point22Test(unittest.TestCase):
    def test_first_falls(self):
        self.assertEqual(falls(1), [])
        self.assertEqual(falls(2), [1])
        self.assertEqual(falls(3), [0, 1])
        self.assertEqual(falls(5), [0, 1, 2, 2])

    def test_the_falls_are_the_row_ahead_from_behind(self):
        for n in range(2, 61):
            numbers = row(n)
            self.assertEqual(falls(n), [numbers[at - 1] - numbers[at] for at in range(1, n)])
            self.assertEqual(falls(n), row(n - 1)[::-1])

    def test_told_anew(self):
        for n in (1, 2, 60):
            told_anew(self, falls, n)


class Point23Test(unittest.TestCase):
    def test_first_tables(self):
        self.assertEqual(table(1), [[1]])
        self.assertEqual(table(2), [[1], [0, 1]])
        self.assertEqual(table(5), [[1], [0, 1], [1, 1, 0], [0, 1, 2, 2], [5, 5, 4, 2, 0]])

    def test_each_second_row_stands_from_behind(self):
        for n in (1, 2, 3, 8, 59, 60):
            told = table(n)
            self.assertIs(type(told), list)
            self.assertEqual(len(told), n)
            for k in range(1, n + 1):
                self.assertIs(type(told[k - 1]), list)
                self.assertEqual(told[k - 1], row(k)[::-1] if k % 2 == 0 else row(k))

    def test_told_anew_with_the_lists_within(self):
        for n in (1, 2, 5, 60):
            told_anew(self, table, n)


class OneBesideTheOtherTest(unittest.TestCase):
    def test_a_list_that_one_told_is_not_what_another_one_tells(self):
        rows = table(6)
        for numbers in rows:
            numbers.clear()
        self.assertEqual(row(5), [5, 5, 4, 2, 0])
        row(6).clear()
        self.assertEqual(falls(6), [0, 2, 4, 5, 5])
        self.assertEqual(table(2), [[1], [0, 1]])


if __name__ == "__main__":
    unittest.main()

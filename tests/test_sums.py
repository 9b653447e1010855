import unittest
from fractions import Fraction
from math import comb, factorial, gcd

from anything import GREAT, refused, told_anew, wrong_fractions, wrong_numbers
from upanddowns import sums
from upanddowns.errors import NoFraction, NoNumber
from upanddowns.sums import parts, share, signed_row, sum_to

NINE = 999999999
FRACTIONS = [(0, 1), (1, 1), (-1, 1), (1, 2), (-1, 2), (3, 4), (-7, 3), (22, 7), (5, 1), (-100, 99),
             (NINE, 1), (-NINE, 1), (1, NINE), (-1, NINE), (NINE, NINE - 1), (1 - NINE, NINE)]


def up_downs_to(n):
    """How many up-downs there are of 0 to n numbers, reckoned otherwise: by where the greatest stands."""
    counts = [1, 1]
    for all_but_it in range(1, n):
        counts.append(sum(comb(all_but_it, at) * counts[at] * counts[all_but_it - at]
                          for at in range(1, all_but_it + 1, 2)))
    return counts[:n + 1]


COUNTS = up_downs_to(61)


class InterfaceTest(unittest.TestCase):
    def test_each_function_is_defined_in_its_file(self):
        for asked in (parts, sum_to, share, signed_row):
            self.assertIs(getattr(sums, asked.__name__), asked)
            self.assertEqual(asked.__module__, "upanddowns.sums")

    def test_what_the_tests_reckon_with(self):
        self.assertEqual(COUNTS[:11], [1, 1, 1, 2, 5, 16, 61, 272, 1385, 7936, 50521])


class Point80Test(unittest.TestCase):
    def test_ordinary_ones(self):
        self.assertEqual(parts(0), [1])
        self.assertEqual(parts(1), [1, 1])
        self.assertEqual(parts(2), [1, 2, 1])
        self.assertEqual(parts(3), [2, 3, 3, 2])
        self.assertEqual(parts(5), [16, 25, 20, 20, 25, 16])

    def test_each_part_up_to_sixty(self):
        for n in range(61):
            told = parts(n)
            self.assertIs(type(told), list)
            self.assertEqual(told, [comb(n, k) * COUNTS[k] * COUNTS[n - k] for k in range(n + 1)])

    def test_they_come_to_twice_the_up_downs_of_one_more(self):
        for n in range(1, 61):
            self.assertEqual(sum(parts(n)), 2 * COUNTS[n + 1])

    def test_wrong_things_are_refused(self):
        for thing in wrong_numbers() + [61, 62, 100]:
            refused(self, NoNumber, parts, thing)

    def test_told_anew(self):
        for n in (0, 1, 5, 60):
            told_anew(self, parts, n)


class Point81Test(unittest.TestCase):
    def test_ordinary_ones(self):
        self.assertEqual(sum_to((1, 1), 2), (5, 2))
        self.assertEqual(sum_to((1, 2), 4), (215, 128))
        self.assertEqual(sum_to((2, 1), 3), (23, 3))

    def test_to_nought_it_is_one(self):
        for x in FRACTIONS:
            self.assertEqual(sum_to(x, 0), (1, 1))

    def test_of_nought_it_is_one(self):
        for n in range(31):
            self.assertEqual(sum_to((0, 1), n), (1, 1))

    def test_a_sum_of_nought(self):
        self.assertEqual(sum_to((-1, 1), 1), (0, 1))

    def test_below_nought(self):
        self.assertEqual(sum_to((-1, 1), 3), (1, 6))
        self.assertEqual(sum_to((-3, 1), 1), (-2, 1))
        self.assertEqual(sum_to((-3, 2), 1), (-1, 2))

    def test_each_sum_up_to_thirty(self):
        for x in FRACTIONS:
            known = Fraction(0)
            for n in range(31):
                known += COUNTS[n] * Fraction(*x) ** n / factorial(n)
                told = sum_to(x, n)
                self.assertIs(type(told), tuple)
                self.assertEqual(told, (known.numerator, known.denominator))
                self.assertEqual(gcd(*told), 1)

    def test_what_is_no_fraction_is_refused_first(self):
        for thing in wrong_fractions():
            for n in (0, 1, 30, 31, -1, None, "1", [1]):
                refused(self, NoFraction, sum_to, thing, n)

    def test_wrong_numbers_are_refused(self):
        for thing in wrong_numbers() + [31, 32, 60]:
            for x in ((0, 1), (1, 2), (-NINE, 1)):
                refused(self, NoNumber, sum_to, x, thing)


class Point82Test(unittest.TestCase):
    def test_ordinary_ones(self):
        self.assertEqual(share(0), (1, 1))
        self.assertEqual(share(1), (-1, 2))
        self.assertEqual(share(2), (1, 6))
        self.assertEqual(share(3), (0, 1))
        self.assertEqual(share(4), (-1, 30))
        self.assertEqual(share(12), (-691, 2730))
        self.assertEqual(share(60), (-1215233140483755572040304994079820246041491, 56786730))

    def test_they_come_to_nought_together(self):
        shares = [Fraction(*share(n)) for n in range(61)]
        for n in range(1, 61):
            self.assertEqual(sum(comb(n + 1, k) * shares[k] for k in range(n + 1)), 0)

    def test_those_of_odd_numbers(self):
        for n in range(3, 61, 2):
            self.assertEqual(share(n), (0, 1))

    def test_those_of_even_numbers_by_how_many_up_downs_there_are(self):
        for n in range(2, 61, 2):
            sign = 1 if n % 4 == 2 else -1
            known = Fraction(sign * n * COUNTS[n - 1], 2 ** n * (2 ** n - 1))
            told = share(n)
            self.assertIs(type(told), tuple)
            self.assertEqual(told, (known.numerator, known.denominator))

    def test_wrong_things_are_refused(self):
        for thing in wrong_numbers() + [61, 62, 100]:
            refused(self, NoNumber, share, thing)


class Point83Test(unittest.TestCase):
    def test_ordinary_ones(self):
        self.assertEqual(signed_row(0), [1])
        self.assertEqual(signed_row(1), [1, 0])
        self.assertEqual(signed_row(2), [1, 0, -1])
        self.assertEqual(signed_row(10), [1, 0, -1, 0, 5, 0, -61, 0, 1385, 0, -50521])

    def test_each_up_to_forty(self):
        for n in range(41):
            told = signed_row(n)
            self.assertIs(type(told), list)
            known = [0 if k % 2 == 1 else COUNTS[k] if k % 4 == 0 else -COUNTS[k] for k in range(n + 1)]
            self.assertEqual(told, known)

    def test_they_come_to_nought_together(self):
        told = signed_row(40)
        for k in range(2, 41, 2):
            self.assertEqual(sum(comb(k, j) * told[j] for j in range(0, k + 1, 2)), 0)

    def test_wrong_things_are_refused(self):
        for thing in wrong_numbers() + [41, 42, 60, GREAT]:
            refused(self, NoNumber, signed_row, thing)

    def test_told_anew(self):
        for n in (0, 1, 2, 7, 40):
            told_anew(self, signed_row, n)


if __name__ == "__main__":
    unittest.main()

import unittest
from itertools import permutations, product
from math import comb, factorial

from anything import (GREAT, alternating, refused, told_anew, wrong_numbers, wrong_orders,
                      wrong_patterns)
from upanddowns import patterns
from upanddowns.errors import NoNumber, NoOrder, NoPattern
from upanddowns.orders import is_order
from upanddowns.patterns import all_patterns, keeps, many_keep, mates, order_at, place_of
from upanddowns.triangle import many

FORTY = tuple(range(1, 41))
LONG = ("u" * 39, "d" * 39, "?" * 39, "ud" * 19 + "u", "du" * 19 + "d", "u?d" * 13,
        "uudd?" * 7 + "uudd", "?" * 20 + "d" * 19, "u" * 20 + "?" + "d" * 18, "d" * 30 + "?" * 9)


def texts(signs, length):
    return ["".join(text) for text in product(signs, repeat=length)]


def has_signs(order, pattern):
    if len(order) != len(pattern) + 1:
        return False
    for at, sign in enumerate(pattern):
        if sign == "u" and order[at] > order[at + 1] or sign == "d" and order[at] < order[at + 1]:
            return False
    return True


def orders_with(pattern):
    """By going through all orders, as tuples compare."""
    return [order for order in permutations(range(1, len(pattern) + 2)) if has_signs(order, pattern)]


def many_by_parts(pattern):
    """How many keep a pattern, reckoned otherwise: a d is what a ? has and a u has not."""
    at = pattern.find("d")
    if at >= 0:
        ahead, behind = pattern[:at], pattern[at + 1:]
        return many_by_parts(ahead + "?" + behind) - many_by_parts(ahead + "u" + behind)
    found, left = 1, len(pattern) + 1
    for part in pattern.split("?"):
        found *= comb(left, len(part) + 1)
        left -= len(part) + 1
    return found


class InterfaceTest(unittest.TestCase):
    def test_each_function_is_defined_in_its_file(self):
        for asked in (keeps, many_keep, order_at, place_of, all_patterns, mates):
            self.assertIs(getattr(patterns, asked.__name__), asked)
            self.assertEqual(asked.__module__, "upanddowns.patterns")


class Point40Test(unittest.TestCase):
    def test_ordinary_ones(self):
        self.assertIs(keeps((2, 3, 1), "ud"), True)
        self.assertIs(keeps((2, 3, 1), "du"), False)
        self.assertIs(keeps((2, 3, 1), "u?"), True)
        self.assertIs(keeps((2, 3, 1), "?u"), False)
        self.assertIs(keeps((2, 3, 1), "??"), True)

    def test_not_so_many(self):
        self.assertIs(keeps((1,), ""), True)
        self.assertIs(keeps((1, 2), ""), False)
        self.assertIs(keeps((1,), "u"), False)
        self.assertIs(keeps((1, 2, 3), "u"), False)
        self.assertIs(keeps((1, 2, 3), "uuu"), False)
        self.assertIs(keeps((1,), "?" * 39), False)
        self.assertIs(keeps(FORTY, ""), False)
        self.assertIs(keeps(FORTY, "?" * 38), False)

    def test_forty_numbers(self):
        self.assertIs(keeps(FORTY, "u" * 39), True)
        self.assertIs(keeps(FORTY, "?" * 39), True)
        self.assertIs(keeps(FORTY, "u" * 38 + "d"), False)
        self.assertIs(keeps(alternating(40), "ud" * 19 + "u"), True)
        self.assertIs(keeps(alternating(40), "?d" * 19 + "?"), True)
        self.assertIs(keeps(alternating(40), "?u" * 19 + "?"), False)

    def test_small_ones_by_going_through_all(self):
        orders = [order for n in range(1, 5) for order in permutations(range(1, n + 1))]
        for pattern in [text for length in range(5) for text in texts("ud?", length)]:
            for order in orders:
                self.assertIs(keeps(order, pattern), has_signs(order, pattern))

    def test_what_is_no_order_is_refused_ahead_of_the_pattern(self):
        for thing in wrong_orders():
            for pattern in ("", "ud", "?" * 39, "x", None, True, 5, ["u"], "u" * 40):
                refused(self, NoOrder, keeps, thing, pattern)

    def test_what_is_no_pattern_is_refused(self):
        for thing in wrong_patterns():
            for order in ((1,), (2, 1, 3), FORTY):
                refused(self, NoPattern, keeps, order, thing)
            refused(self, NoPattern, many_keep, thing)
            refused(self, NoPattern, mates, thing)

    def test_what_is_no_pattern_is_refused_ahead_of_what_stands_behind(self):
        for thing in wrong_patterns():
            for behind in (0, (1,), None, True, -1, "u", [1], (1, 1), GREAT):
                refused(self, NoPattern, order_at, thing, behind)
                refused(self, NoPattern, place_of, thing, behind)


class Point41Test(unittest.TestCase):
    def test_ordinary_ones(self):
        self.assertEqual(many_keep(""), 1)
        self.assertEqual(many_keep("u"), 1)
        self.assertEqual(many_keep("?"), 2)
        self.assertEqual(many_keep("ud"), 2)
        self.assertEqual(many_keep("udu"), 5)
        self.assertEqual(many_keep("uud?"), 11 + 4)

    def test_small_ones_by_going_through_all_orders(self):
        for length in range(5):
            for pattern in texts("ud?", length):
                self.assertEqual(many_keep(pattern), len(orders_with(pattern)))

    def test_great_ones_are_told_at_once(self):
        self.assertEqual(many_keep("u" * 39), 1)
        self.assertEqual(many_keep("d" * 39), 1)
        self.assertEqual(many_keep("ud" * 19 + "u"), many(40))
        self.assertEqual(many_keep("du" * 19), many(39))
        for at in range(40):
            self.assertEqual(many_keep("u" * at + "d" * (39 - at)), comb(39, at))
            self.assertEqual(many_keep("u" * at + "?" * (39 - at)), factorial(40) // factorial(at + 1))
            self.assertEqual(many_keep("?" * at), factorial(at + 1))
        for pattern in ("uuuduuuduuuduuudu?uuuuuu?u?uuuuuuduuudu", "u?" * 19 + "d", "ud?" * 8, "?" * 30 + "dddd?"):
            self.assertEqual(many_keep(pattern), many_by_parts(pattern))

    def test_a_question_is_what_up_and_down_come_to(self):
        for pattern in LONG:
            for at in range(0, 39, 5):
                ahead, behind = pattern[:at], pattern[at + 1:]
                both = many_keep(ahead + "u" + behind) + many_keep(ahead + "d" + behind)
                self.assertEqual(many_keep(ahead + "?" + behind), both)


class Point42Test(unittest.TestCase):
    def test_ordinary_ones(self):
        self.assertEqual(order_at("", 0), (1,))
        self.assertEqual(place_of("", (1,)), 0)
        self.assertEqual([order_at("ud", number) for number in range(2)], [(1, 3, 2), (2, 3, 1)])
        self.assertEqual([order_at("?", number) for number in range(2)], [(1, 2), (2, 1)])
        self.assertEqual(place_of("ud", (2, 3, 1)), 1)
        self.assertEqual(order_at("udu", 4), (3, 4, 1, 2))

    def test_small_ones_by_going_through_all_orders(self):
        for length in range(5):
            orders = list(permutations(range(1, length + 2)))
            for pattern in texts("ud?", length):
                kept = orders_with(pattern)
                self.assertEqual([order_at(pattern, number) for number in range(len(kept))], kept)
                numbers = {order: number for number, order in enumerate(kept)}
                for order in orders:
                    told = place_of(pattern, order)
                    self.assertEqual(told, numbers.get(order))
                    self.assertIsNot(told, False)

    def test_great_ones_are_told_at_once_there_and_back(self):
        for pattern in LONG:
            last = many_keep(pattern) - 1
            for number in {0, 1, 2, last // 7, last // 3, last // 2, last - last // 5, last - 1, last}:
                if 0 <= number <= last:
                    order = order_at(pattern, number)
                    self.assertIs(type(order), tuple)
                    self.assertTrue(is_order(order) and has_signs(order, pattern))
                    self.assertEqual(place_of(pattern, order), number)
                if 0 <= number < last:
                    self.assertLess(order, order_at(pattern, number + 1))

    def test_the_first_and_the_last_of_great_ones(self):
        self.assertEqual(order_at("u" * 39, 0), FORTY)
        self.assertEqual(order_at("d" * 39, 0), FORTY[::-1])
        self.assertEqual(order_at("?" * 39, 0), FORTY)
        self.assertEqual(order_at("?" * 39, factorial(40) - 1), FORTY[::-1])
        self.assertEqual(order_at("?" * 39, factorial(39)), (2, 1) + FORTY[2:])
        self.assertEqual(order_at("u" * 20 + "d" * 19, 0), tuple(range(1, 21)) + FORTY[:19:-1])
        twos = tuple(number for two in range(2, 39, 2) for number in (two + 1, two))
        self.assertEqual(order_at("ud" * 19 + "u", 0), (1,) + twos + (40,))
        self.assertEqual(order_at("?" * 38 + "u", factorial(40) // 2 - 1), FORTY[:1:-1] + (1, 2))

    def test_numbers_just_outside_are_refused(self):
        for pattern in ("", "u", "?", "udu", "????") + LONG:
            refused(self, NoNumber, order_at, pattern, many_keep(pattern))
            refused(self, NoNumber, order_at, pattern, -1)

    def test_what_is_no_number_is_refused(self):
        for pattern in ("", "ud", "?" * 39):
            for thing in wrong_numbers():
                refused(self, NoNumber, order_at, pattern, thing)

    def test_what_is_no_order_is_refused(self):
        for pattern in ("", "ud", "?" * 39):
            for thing in wrong_orders():
                refused(self, NoOrder, place_of, pattern, thing)

    def test_none_of_an_order_that_does_not_keep_it(self):
        self.assertIsNone(place_of("ud", (1, 2, 3)))
        self.assertIsNone(place_of("u", (1,)))
        self.assertIsNone(place_of("", (1, 2)))
        self.assertIsNone(place_of("u" * 39, FORTY[::-1]))
        self.assertIsNone(place_of("?" * 38, FORTY))
        self.assertIsNone(place_of("ud?" * 13, alternating(40)))


class Point43Test(unittest.TestCase):
    def test_first_ones(self):
        self.assertEqual(all_patterns(1), {"": 1})
        self.assertEqual(all_patterns(2), {"u": 1, "d": 1})
        self.assertEqual(all_patterns(3), {"uu": 1, "ud": 2, "du": 2, "dd": 1})

    def test_small_ones_by_going_through_all_orders(self):
        for n in range(1, 8):
            found = {pattern: 0 for pattern in texts("ud", n - 1)}
            for order in permutations(range(1, n + 1)):
                found["".join("ud"[order[at] > order[at + 1]] for at in range(n - 1))] += 1
            self.assertEqual(all_patterns(n), found)

    def test_great_ones_are_told_at_once(self):
        for n in range(8, 12):
            told = all_patterns(n)
            self.assertIs(type(told), dict)
            self.assertEqual(sorted(told), sorted(texts("ud", n - 1)))
            self.assertEqual(sum(told.values()), factorial(n))
            self.assertEqual(max(told.values()), many(n))
            self.assertEqual(told[("ud" * n)[:n - 1]], many(n))
            for pattern in list(told)[::37]:
                self.assertEqual(told[pattern], many_by_parts(pattern))

    def test_wrong_numbers_are_refused(self):
        for thing in wrong_numbers() + [0, 12, 13, 40]:
            refused(self, NoNumber, all_patterns, thing)

    def test_told_anew(self):
        for n in (1, 4, 11):
            told_anew(self, all_patterns, n)


class Point44Test(unittest.TestCase):
    def test_ordinary_ones(self):
        self.assertEqual(mates(""), [""])
        self.assertEqual(mates("?"), ["?"])
        self.assertEqual(mates("u"), ["d", "u"])
        self.assertEqual(mates("ud"), ["du", "ud"])
        self.assertEqual(mates("uu"), ["dd", "uu"])
        self.assertEqual(mates("u?"), ["?d", "?u", "d?", "u?"])
        self.assertEqual(mates("uud"), ["ddu", "duu", "udd", "uud"])
        self.assertEqual(mates("udu"), ["dud", "udu"])

    def test_thirty_nine_signs(self):
        self.assertEqual(mates("?" * 39), ["?" * 39])
        self.assertEqual(mates("u" * 39), ["d" * 39, "u" * 39])
        self.assertEqual(mates("u" * 38 + "d"), ["d" * 38 + "u", "d" + "u" * 38, "u" + "d" * 38, "u" * 38 + "d"])

    def test_all_small_ones_and_as_many_keep_each(self):
        for pattern in [text for length in range(6) for text in texts("ud?", length)] + list(LONG):
            other = "".join({"u": "d", "d": "u", "?": "?"}[sign] for sign in pattern)
            told = mates(pattern)
            self.assertIs(type(told), list)
            self.assertEqual(told, sorted({pattern, other, pattern[::-1], other[::-1]}))
            self.assertEqual({many_keep(mate) for mate in told}, {many_keep(pattern)})

    def test_told_anew(self):
        for pattern in ("", "u", "uud?", "?" * 39):
            told_anew(self, mates, pattern)


if __name__ == "__main__":
    unittest.main()

import unittest
from itertools import permutations

from anything import GREAT, alternating, refused, wrong_numbers, wrong_orders, wrong_rows
from upanddowns import orders
from upanddowns.errors import NoNumber, NoOrder, NoRow
from upanddowns.orders import (backward, contrary, is_downup, is_order, is_updown, order_of,
                               turned_over, turns, without)

FORTY = tuple(range(1, 41))
MIXED = tuple(at * 7 % 41 for at in range(1, 41))


def all_orders(longest):
    for n in range(1, longest + 1):
        yield from permutations(range(1, n + 1))


class InterfaceTest(unittest.TestCase):
    def test_each_function_is_defined_in_its_file(self):
        for name in ("is_order turns is_updown is_downup turned_over backward contrary order_of"
                     " without").split():
            self.assertEqual(getattr(orders, name).__module__, "upanddowns.orders")


class Point10Test(unittest.TestCase):
    def test_orders_are_told(self):
        for order in [(1,), (1, 2), (2, 1), (2, 3, 1), FORTY, FORTY[::-1], MIXED, alternating(40)]:
            self.assertIs(is_order(order), True)

    def test_small_ones_are_told_by_going_through_all_tuples_of_numbers(self):
        for n in range(1, 5):
            good = set(permutations(range(1, n + 1)))
            for thing in tuples(range(-1, n + 2), n):
                self.assertIs(is_order(thing), thing in good)

    def test_anything_else_is_none(self):
        for thing in wrong_orders():
            self.assertIs(is_order(thing), False, thing)

    def test_the_turns(self):
        self.assertEqual(turns((1,)), "")
        self.assertEqual(turns((1, 2)), "u")
        self.assertEqual(turns((2, 1)), "d")
        self.assertEqual(turns((2, 3, 1, 5, 4)), "udud")
        self.assertEqual(turns((3, 1, 2, 4)), "duu")
        self.assertEqual(turns(FORTY), "u" * 39)
        self.assertEqual(turns(FORTY[::-1]), "d" * 39)
        self.assertEqual(turns(alternating(40)), "ud" * 19 + "u")

    def test_the_turns_of_all_small_orders(self):
        for order in all_orders(6):
            told = turns(order)
            self.assertEqual(len(told), len(order) - 1)
            for at, sign in enumerate(told):
                self.assertEqual(sign, "u" if order[at + 1] > order[at] else "d")

    def test_what_is_no_order_is_refused(self):
        for thing in wrong_orders():
            for asked in (turns, turned_over, backward, contrary):
                refused(self, NoOrder, asked, thing)


class Point11Test(unittest.TestCase):
    def test_one_number_is_both(self):
        self.assertIs(is_updown((1,)), True)
        self.assertIs(is_downup((1,)), True)

    def test_ordinary_ones(self):
        self.assertIs(is_updown((1, 2)), True)
        self.assertIs(is_downup((1, 2)), False)
        self.assertIs(is_updown((2, 1)), False)
        self.assertIs(is_downup((2, 1)), True)
        self.assertIs(is_updown((2, 4, 1, 5, 3)), True)
        self.assertIs(is_downup((4, 2, 5, 1, 3)), True)
        self.assertIs(is_updown((1, 2, 3)), False)
        self.assertIs(is_downup((3, 2, 1)), False)

    def test_all_small_orders(self):
        for order in all_orders(7):
            rises = [order[at] < order[at + 1] for at in range(len(order) - 1)]
            up = all(rise == (at % 2 == 0) for at, rise in enumerate(rises))
            down = all(rise == (at % 2 == 1) for at, rise in enumerate(rises))
            self.assertIs(is_updown(order), up)
            self.assertIs(is_downup(order), down)

    def test_forty_numbers(self):
        order = alternating(40)
        over = tuple(41 - number for number in order)
        self.assertEqual((is_updown(order), is_downup(order)), (True, False))
        self.assertEqual((is_updown(over), is_downup(over)), (False, True))
        late = order[:38] + (order[39], order[38])
        self.assertEqual((is_updown(late), is_downup(late)), (False, False))
        self.assertEqual((is_updown(FORTY), is_downup(FORTY)), (False, False))

    def test_anything_else_is_neither(self):
        for thing in wrong_orders() + [(1, 3), (0, 1), (1, 3, 2, 5), (3, 1), "ud", "du"]:
            self.assertIs(is_updown(thing), False, thing)
            self.assertIs(is_downup(thing), False, thing)


class Point12Test(unittest.TestCase):
    def test_ordinary_ones(self):
        self.assertEqual(turned_over((3, 1, 4, 2)), (2, 4, 1, 3))
        self.assertEqual(turned_over((1, 2, 3)), (3, 2, 1))
        self.assertEqual(backward((3, 1, 4, 2)), (2, 4, 1, 3))
        self.assertEqual(backward((2, 3, 1)), (1, 3, 2))
        self.assertEqual(contrary((2, 3, 1)), (3, 1, 2))
        self.assertEqual(contrary((3, 1, 4, 2)), (2, 4, 1, 3))
        self.assertEqual(contrary((4, 1, 2, 3)), (2, 3, 4, 1))

    def test_one_number(self):
        for asked in (turned_over, backward, contrary):
            self.assertEqual(asked((1,)), (1,))

    def test_forty_numbers(self):
        self.assertEqual(turned_over(FORTY), FORTY[::-1])
        self.assertEqual(backward(FORTY), FORTY[::-1])
        self.assertEqual(contrary(FORTY), FORTY)
        self.assertEqual(contrary(FORTY[::-1]), FORTY[::-1])
        self.assert_right(MIXED)

    def test_all_small_orders(self):
        for order in all_orders(6):
            self.assert_right(order)

    def assert_right(self, order):
        n = len(order)
        over, behind, other = turned_over(order), backward(order), contrary(order)
        self.assertEqual([type(told) for told in (over, behind, other)], [tuple] * 3)
        self.assertEqual([a + b for a, b in zip(order, over)], [n + 1] * n)
        self.assertEqual(list(behind), list(reversed(order)))
        self.assertEqual([order[at - 1] for at in other], list(range(1, n + 1)))
        for asked in (turned_over, backward, contrary):
            self.assertEqual(asked(asked(order)), order)
        changed = turns(order).translate(str.maketrans("ud", "du"))
        self.assertEqual(turns(over), changed)
        self.assertEqual(turns(behind), changed[::-1])


class Point13Test(unittest.TestCase):
    def test_the_order_of_ordinary_rows(self):
        self.assertEqual(order_of((7,)), (1,))
        self.assertEqual(order_of((0,)), (1,))
        self.assertEqual(order_of((10, 30, 20)), (1, 3, 2))
        self.assertEqual(order_of((5, 4)), (2, 1))

    def test_the_order_of_rows_below_nought_and_of_great_numbers(self):
        self.assertEqual(order_of((-5, 0, -7, 3)), (2, 3, 1, 4))
        self.assertEqual(order_of((GREAT, -GREAT, GREAT - 1, 0, 1 - GREAT)), (5, 1, 4, 3, 2))

    def test_the_order_of_forty_numbers(self):
        self.assertEqual(order_of(tuple(number * GREAT // 100 - GREAT // 5 for number in MIXED)), MIXED)
        self.assertEqual(order_of(tuple(range(39, -1, -1))), FORTY[::-1])

    def test_an_order_is_its_own(self):
        for order in all_orders(6):
            self.assertEqual(order_of(order), order)
            self.assertEqual(order_of(tuple(3 * number - 11 for number in order)), order)

    def test_what_is_no_row_is_refused(self):
        for thing in wrong_rows():
            refused(self, NoRow, order_of, thing)

    def test_ordinary_ones_with_a_number_taken_out(self):
        self.assertEqual(without((2, 1), 1), (1,))
        self.assertEqual(without((2, 1), 2), (1,))
        self.assertEqual(without((3, 1, 4, 2), 1), (2, 3, 1))
        self.assertEqual(without((3, 1, 4, 2), 2), (2, 1, 3))
        self.assertEqual(without((3, 1, 4, 2), 3), (1, 3, 2))
        self.assertEqual(without((3, 1, 4, 2), 4), (3, 1, 2))

    def test_each_number_taken_out_of_small_and_long_orders(self):
        for order in list(all_orders(5)) + [FORTY, MIXED, alternating(40)]:
            for number in range(1, len(order) + 1) if len(order) > 1 else ():
                told = without(order, number)
                self.assertIs(type(told), tuple)
                self.assertTrue(is_order(told))
                self.assertEqual(told, order_of(tuple(k for k in order if k != number)))

    def test_the_only_number_is_not_taken_out(self):
        refused(self, NoNumber, without, (1,), 1)

    def test_what_is_no_such_number_is_refused(self):
        for thing in wrong_numbers() + [0]:
            for order in ((1,), (2, 1), (3, 1, 4, 2), FORTY):
                refused(self, NoNumber, without, order, thing)
        for order in ((1,), (2, 1), (3, 1, 4, 2), FORTY):
            refused(self, NoNumber, without, order, len(order) + 1)

    def test_what_is_no_order_is_refused_ahead_of_the_number(self):
        for thing in wrong_orders():
            for number in (1, 0, True, None, "1", [1], {}, GREAT):
                refused(self, NoOrder, without, thing, number)


def tuples(numbers, length):
    found = [()]
    for _ in range(length):
        found = [thing + (number,) for thing in found for number in numbers]
    return found


if __name__ == "__main__":
    unittest.main()

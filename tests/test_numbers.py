import unittest

from anything import (GREAT, alternating, goes_up_and_down, refused, some_numbers, told_anew, up_downs,
                      wrong_numbers, wrong_updowns)
from upanddowns import numbers
from upanddowns.errors import NoNumber, NotUpDown
from upanddowns.numbers import ahead_of, all_updowns, next_updown, number_of, updown_at
from upanddowns.triangle import many, row

FIRST_OF_FORTY = (1,) + tuple(number for two in range(2, 39, 2) for number in (two + 1, two)) + (40,)
LAST_OF_FORTY = tuple(number for two in range(39, 2, -2) for number in (two, two + 1)) + (1, 2)


def number_by_rows(updown):
    """The number of an up-down, reckoned otherwise: by the rows of the triangle."""
    left, number = sorted(updown), 0
    for at, here in enumerate(updown):
        ways = row(len(left))[::1 if at % 2 == 0 else -1]
        for place, other in enumerate(left):
            fits = at == 0 or (updown[at - 1] < other) == (at % 2 == 1)
            if other < here and fits:
                number += ways[place]
        left.remove(here)
    return number


def behind_it(updown):
    """The next one, found otherwise: a number as late as can be is put up by as little as can be."""
    for at in range(len(updown) - 1, -1, -1):
        for number in sorted(other for other in updown[at:] if other > updown[at]):
            begun = updown[:at] + (number,)
            if goes_up_and_down(begun):
                led = led_on(begun, sorted(set(updown[at:]) - {number}))
                if led:
                    return led
    return None


def led_on(begun, left):
    """The first up-down that begins so, None where there is none."""
    if not left:
        return begun
    for number in left:
        if (begun[-1] < number) == (len(begun) % 2 == 1):
            led = led_on(begun + (number,), [other for other in left if other != number])
            if led:
                return led
    return None


class InterfaceTest(unittest.TestCase):
    def test_each_function_is_defined_in_its_file(self):
        for asked in (updown_at, number_of, next_updown, ahead_of, all_updowns):
            self.assertIs(getattr(numbers, asked.__name__), asked)
            self.assertEqual(asked.__module__, "upanddowns.numbers")


class Point30Test(unittest.TestCase):
    def test_ordinary_ones(self):
        told = [updown_at(4, number) for number in range(5)]
        self.assertEqual(told, [(1, 3, 2, 4), (1, 4, 2, 3), (2, 3, 1, 4), (2, 4, 1, 3), (3, 4, 1, 2)])
        self.assertEqual(number_of((2, 4, 1, 3)), 3)

    def test_few_numbers(self):
        self.assertEqual(updown_at(1, 0), (1,))
        self.assertEqual(updown_at(2, 0), (1, 2))
        self.assertEqual([updown_at(3, number) for number in (0, 1)], [(1, 3, 2), (2, 3, 1)])
        self.assertEqual([number_of(updown) for updown in ((1,), (1, 2), (1, 3, 2), (2, 3, 1))], [0, 0, 0, 1])

    def test_small_ones_by_going_through_all_orders(self):
        for n in range(1, 8):
            known = up_downs(n)
            self.assertEqual([updown_at(n, number) for number in range(len(known))], known)
            self.assertEqual([number_of(updown) for updown in known], list(range(len(known))))

    def test_great_ones_are_told_at_once_there_and_back(self):
        for n in list(range(8, 35, 5)) + [39, 40]:
            for number in some_numbers(many(n)):
                updown = updown_at(n, number)
                self.assertIs(type(updown), tuple)
                self.assertEqual(sorted(updown), list(range(1, n + 1)))
                self.assertTrue(goes_up_and_down(updown))
                self.assertEqual(number_by_rows(updown), number)
                self.assertEqual(number_of(updown), number)

    def test_the_first_and_the_last_of_forty(self):
        self.assertEqual(updown_at(40, 0), FIRST_OF_FORTY)
        self.assertEqual(updown_at(40, many(40) - 1), LAST_OF_FORTY)
        self.assertEqual(number_of(FIRST_OF_FORTY), 0)
        self.assertEqual(number_of(LAST_OF_FORTY), many(40) - 1)
        self.assertEqual(number_of(alternating(40)), number_by_rows(alternating(40)))

    def test_what_is_no_n_is_refused(self):
        for thing in wrong_numbers() + [0, 41, 42, 60]:
            for number in (0, 1, -1, None, True, "0", [0], GREAT):
                refused(self, NoNumber, updown_at, thing, number)

    def test_what_is_no_number_of_an_up_down_is_refused(self):
        for n in (1, 2, 3, 8, 39, 40):
            for thing in wrong_numbers() + [many(n), many(n) + 1]:
                refused(self, NoNumber, updown_at, n, thing)

    def test_what_is_no_up_down_is_refused(self):
        for thing in wrong_updowns():
            for asked in (number_of, next_updown, ahead_of):
                refused(self, NotUpDown, asked, thing)


class Point31Test(unittest.TestCase):
    def test_ordinary_ones(self):
        self.assertEqual(next_updown((1, 3, 2, 4)), (1, 4, 2, 3))
        self.assertEqual(next_updown((1, 4, 2, 3)), (2, 3, 1, 4))
        self.assertEqual(ahead_of((2, 3, 1, 4)), (1, 4, 2, 3))

    def test_the_only_ones_have_none_on_either_side(self):
        for only in ((1,), (1, 2)):
            self.assertIsNone(next_updown(only))
            self.assertIsNone(ahead_of(only))

    def test_small_ones_by_going_through_all_orders(self):
        for n in range(1, 8):
            known = up_downs(n)
            self.assertEqual([next_updown(updown) for updown in known], known[1:] + [None])
            self.assertEqual([ahead_of(updown) for updown in known], [None] + known[:-1])

    def test_great_ones_are_told_at_once(self):
        for n in (20, 39, 40):
            for number in some_numbers(many(n))[:-1]:
                updown = updown_at(n, number)
                behind = behind_it(updown)
                self.assertEqual(next_updown(updown), behind)
                self.assertEqual(ahead_of(behind), updown)

    def test_the_ends_of_forty(self):
        self.assertIsNone(next_updown(LAST_OF_FORTY))
        self.assertIsNone(ahead_of(FIRST_OF_FORTY))
        self.assertEqual(next_updown(FIRST_OF_FORTY), FIRST_OF_FORTY[:37] + (40, 38, 39))
        self.assertEqual(next_updown(ahead_of(LAST_OF_FORTY)), LAST_OF_FORTY)


class Point32Test(unittest.TestCase):
    def test_all_of_one_to_eight(self):
        self.assertEqual(all_updowns(1), [(1,)])
        self.assertEqual(all_updowns(2), [(1, 2)])
        for n in range(1, 9):
            told = all_updowns(n)
            self.assertIs(type(told), list)
            self.assertEqual(told, up_downs(n))

    def test_wrong_numbers_are_refused(self):
        for thing in wrong_numbers() + [0, 9, 10, 40]:
            refused(self, NoNumber, all_updowns, thing)

    def test_told_anew(self):
        for n in (1, 2, 5, 8):
            told_anew(self, all_updowns, n)


if __name__ == "__main__":
    unittest.main()

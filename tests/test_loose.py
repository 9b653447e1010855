import unittest
from itertools import product

from anything import (GREAT, refused, some_numbers, told_anew, wrong_looses, wrong_numbers,
                      wrong_updowns)
from upanddowns import loose
from upanddowns.errors import NoLoose, NoNumber, NotUpDown
from upanddowns.loose import all_loose, is_loose, loose_at, loose_many, loose_number, twin, twin_of
from upanddowns.numbers import all_updowns, updown_at
from upanddowns.triangle import many

FIRST_OF_FORTY = tuple(upper for upper in range(1, 21) for both in (1, 2))[:39]
LAST_OF_FORTY = tuple(range(1, 40))


def looses(n):
    """All of n by going through all tuples of lesser numbers, as tuples compare."""
    tuples = product(*[range(1, number) for number in range(2, n + 1)])
    return [thing for thing in tuples if all(thing.count(upper) < 3 for upper in thing)]


def behind_it(thing):
    """The next one, found otherwise: an upper as late as can be is put up by as little as can be."""
    for at in range(len(thing) - 1, -1, -1):
        for upper in range(thing[at] + 1, at + 2):
            if thing[:at].count(upper) < 2:
                return led_on(thing[:at] + (upper,), len(thing))
    return None


def led_on(begun, length):
    """The first loose tree that begins so."""
    while len(begun) < length:
        begun += (min(upper for upper in range(1, len(begun) + 2) if begun.count(upper) < 2),)
    return begun


class InterfaceTest(unittest.TestCase):
    def test_each_function_is_defined_in_its_file(self):
        for asked in (is_loose, loose_many, loose_at, loose_number, all_loose, twin, twin_of):
            self.assertIs(getattr(loose, asked.__name__), asked)
            self.assertEqual(asked.__module__, "upanddowns.loose")


class Point62Test(unittest.TestCase):
    def test_loose_trees_are_told(self):
        for thing in ((), (1,), (1, 1), (1, 2), (1, 1, 2, 2, 3), FIRST_OF_FORTY, LAST_OF_FORTY):
            self.assertIs(is_loose(thing), True)

    def test_small_ones_are_told_by_going_through_all_tuples_of_numbers(self):
        for n in range(1, 6):
            found = [thing for thing in product(range(-1, n + 2), repeat=n - 1) if is_loose(thing)]
            self.assertEqual(found, looses(n))

    def test_anything_else_is_none(self):
        for thing in wrong_looses():
            self.assertIs(is_loose(thing), False, thing)

    def test_what_is_no_loose_tree_is_refused(self):
        for thing in wrong_looses():
            for asked in (loose_number, twin_of):
                refused(self, NoLoose, asked, thing)

    def test_how_many(self):
        self.assertEqual([loose_many(n) for n in range(1, 9)], [1, 1, 2, 5, 16, 61, 272, 1385])
        for n in range(1, 8):
            self.assertEqual(loose_many(n), len(looses(n)))

    def test_how_many_up_to_forty_is_told_at_once(self):
        for n in range(1, 41):
            self.assertEqual(loose_many(n), many(n))

    def test_wrong_numbers_are_refused(self):
        for thing in wrong_numbers() + [0, 41, 42, 60]:
            refused(self, NoNumber, loose_many, thing)


class Point63Test(unittest.TestCase):
    def test_ordinary_ones(self):
        told = [loose_at(4, number) for number in range(5)]
        self.assertEqual(told, [(1, 1, 2), (1, 1, 3), (1, 2, 1), (1, 2, 2), (1, 2, 3)])
        self.assertEqual(loose_number((1, 2, 2)), 3)

    def test_few_numbers(self):
        self.assertEqual(loose_at(1, 0), ())
        self.assertEqual(loose_number(()), 0)
        self.assertEqual(loose_at(2, 0), (1,))
        self.assertEqual(loose_number((1,)), 0)

    def test_small_ones_by_going_through_all(self):
        for n in range(1, 8):
            known = looses(n)
            self.assertEqual([loose_at(n, number) for number in range(len(known))], known)
            self.assertEqual([loose_number(thing) for thing in known], list(range(len(known))))

    def test_great_ones_are_told_at_once_there_and_back(self):
        for n in list(range(8, 35, 5)) + [39, 40]:
            for number in some_numbers(many(n)):
                thing = loose_at(n, number)
                self.assertIs(type(thing), tuple)
                self.assertEqual(len(thing), n - 1)
                self.assertTrue(is_loose(thing))
                self.assertEqual(loose_number(thing), number)
                behind = loose_at(n, number + 1) if number + 1 < many(n) else None
                self.assertEqual(behind_it(thing), behind)

    def test_the_first_and_the_last_of_forty(self):
        self.assertEqual(loose_at(40, 0), FIRST_OF_FORTY)
        self.assertEqual(loose_at(40, many(40) - 1), LAST_OF_FORTY)
        self.assertEqual(loose_number(FIRST_OF_FORTY), 0)
        self.assertEqual(loose_number(LAST_OF_FORTY), many(40) - 1)

    def test_what_is_no_n_is_refused(self):
        for thing in wrong_numbers() + [0, 41, 42, 60]:
            for number in (0, 1, -1, None, True, "0", [0], GREAT):
                refused(self, NoNumber, loose_at, thing, number)

    def test_what_is_no_number_of_a_loose_tree_is_refused(self):
        for n in (1, 2, 3, 8, 39, 40):
            for thing in wrong_numbers() + [many(n), many(n) + 1]:
                refused(self, NoNumber, loose_at, n, thing)

    def test_all_of_one_to_seven(self):
        self.assertEqual(all_loose(1), [()])
        self.assertEqual(all_loose(2), [(1,)])
        for n in range(1, 8):
            told = all_loose(n)
            self.assertIs(type(told), list)
            self.assertEqual(told, looses(n))

    def test_what_is_no_n_for_all_is_refused(self):
        for thing in wrong_numbers() + [0, 8, 9, 40]:
            refused(self, NoNumber, all_loose, thing)

    def test_told_anew(self):
        for n in (1, 2, 5, 7):
            told_anew(self, all_loose, n)

    def test_ordinary_twins(self):
        self.assertEqual(twin((1,)), ())
        self.assertEqual(twin_of(()), (1,))
        self.assertEqual(twin((1, 2)), (1,))
        self.assertEqual(twin_of((1,)), (1, 2))
        self.assertEqual(twin((2, 3, 1, 4)), (1, 2, 1))
        self.assertEqual(twin_of((1, 2, 1)), (2, 3, 1, 4))

    def test_small_twins_by_going_through_all(self):
        for n in range(1, 8):
            updowns, known = all_updowns(n), looses(n)
            self.assertEqual([twin(updown) for updown in updowns], known)
            self.assertEqual([twin_of(thing) for thing in known], updowns)

    def test_great_twins_are_told_at_once(self):
        for n in (9, 30, 39, 40):
            for number in some_numbers(many(n)):
                updown, thing = updown_at(n, number), loose_at(n, number)
                self.assertEqual(twin(updown), thing)
                self.assertEqual(twin_of(thing), updown)

    def test_what_is_no_up_down_has_no_twin(self):
        for thing in wrong_updowns():
            refused(self, NotUpDown, twin, thing)


if __name__ == "__main__":
    unittest.main()

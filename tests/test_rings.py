import unittest
from itertools import permutations

from anything import GREAT, alternating, refused, some_numbers, up_downs, wrong_numbers, wrong_rings, wrong_updowns
from upanddowns import rings
from upanddowns.errors import NoNumber, NoRing, NotUpDown
from upanddowns.rings import (cut, is_ring, other_way, ring_at, ring_number, ring_of, ring_over, rings_many,
                              row_of_ring, side_by_side)

FIRST_OF_FORTY = (40, 1) + tuple(number for low in range(2, 40, 2) for number in (low + 1, low))
LAST_OF_FORTY = (40,) + tuple(number for low in range(38, 1, -2) for number in (low, low + 1)) + (1,)
MIDDLE_OF_FORTY = (40,) + alternating(39)
GREAT_RINGS = [FIRST_OF_FORTY, LAST_OF_FORTY, MIDDLE_OF_FORTY, (30,) + alternating(29)]
WRONG_N = [0, 1, 3, 5, 21, 39, 41, 42, 43, 60]


def about(ring):
    """Whether a row goes down, up and so on, and from the last one to the first one up."""
    return all((here > there) == (at % 2 == 0) for at, (here, there) in enumerate(zip(ring, ring[1:] + ring[:1])))


def all_rings(n):
    """All rings of n by going through all orders with n ahead, as tuples compare."""
    return [ring for rest in permutations(range(1, n)) if about(ring := (n,) + rest)]


def beside(ring):
    """The two that stand side by side, the lesser one first, for each place of a ring."""
    return [tuple(sorted(two)) for two in zip(ring, ring[1:] + ring[:1])]


def some_rings():
    return [ring for n in (2, 4, 6, 8) for ring in all_rings(n)] + GREAT_RINGS


class InterfaceTest(unittest.TestCase):
    def test_each_function_is_defined_in_its_file(self):
        for asked in (is_ring, row_of_ring, ring_of, other_way, ring_over, rings_many, ring_at, ring_number,
                      cut, side_by_side):
            self.assertIs(getattr(rings, asked.__name__), asked)
            self.assertEqual(asked.__module__, "upanddowns.rings")


class Point70Test(unittest.TestCase):
    def test_rings_are_told(self):
        for ring in [(2, 1), (4, 1, 3, 2), (4, 2, 3, 1), (6, 2, 5, 1, 4, 3)] + GREAT_RINGS:
            self.assertIs(is_ring(ring), True)

    def test_small_ones_are_told_by_going_through_all_orders(self):
        for n in range(1, 9):
            known = all_rings(n) if n % 2 == 0 else []
            self.assertEqual([order for order in permutations(range(1, n + 1)) if is_ring(order)], known)

    def test_anything_else_is_none(self):
        for thing in wrong_rings():
            self.assertIs(is_ring(thing), False, thing)

    def test_what_is_no_ring_is_refused(self):
        for thing in wrong_rings():
            for asked in (row_of_ring, other_way, ring_over, ring_number):
                refused(self, NoRing, asked, thing)

    def test_what_stands_behind_the_greatest(self):
        self.assertEqual(row_of_ring((2, 1)), (1,))
        self.assertEqual(row_of_ring((4, 2, 3, 1)), (2, 3, 1))
        self.assertEqual(row_of_ring(MIDDLE_OF_FORTY), alternating(39))

    def test_rings_of_up_downs(self):
        self.assertEqual(ring_of((1,)), (2, 1))
        self.assertEqual(ring_of((2, 3, 1)), (4, 2, 3, 1))
        self.assertEqual(ring_of(alternating(39)), MIDDLE_OF_FORTY)

    def test_small_ones_there_and_back(self):
        for n in (2, 4, 6, 8):
            self.assertEqual([ring_of(updown) for updown in up_downs(n - 1)], all_rings(n))
            self.assertEqual([row_of_ring(ring) for ring in all_rings(n)], up_downs(n - 1))

    def test_what_is_no_up_down_of_an_odd_number_has_no_ring(self):
        even = [(1, 2), (1, 3, 2, 4), (3, 4, 1, 2), alternating(38), alternating(40)]
        for thing in wrong_updowns() + even + up_downs(6):
            refused(self, NotUpDown, ring_of, thing)


class Point71Test(unittest.TestCase):
    def test_the_other_way(self):
        self.assertEqual(other_way((2, 1)), (2, 1))
        self.assertEqual(other_way((4, 1, 3, 2)), (4, 2, 3, 1))
        self.assertEqual(other_way((6, 2, 5, 1, 4, 3)), (6, 3, 4, 1, 5, 2))

    def test_turned_over(self):
        self.assertEqual(ring_over((2, 1)), (2, 1))
        self.assertEqual(ring_over((4, 1, 3, 2)), (4, 2, 3, 1))
        self.assertEqual(ring_over((6, 2, 5, 1, 4, 3)), (6, 3, 4, 1, 5, 2))
        self.assertEqual(ring_over((6, 3, 5, 2, 4, 1)), (6, 1, 4, 2, 5, 3))

    def test_both_are_rings_and_lead_back(self):
        for ring in some_rings():
            for turned in (other_way, ring_over):
                told = turned(ring)
                self.assertIs(type(told), tuple)
                self.assertTrue(is_ring(told))
                self.assertEqual(turned(told), ring)

    def test_the_other_way_place_by_place(self):
        for ring in some_rings():
            told = other_way(ring)
            self.assertEqual([told[-at] for at in range(len(ring))], list(ring))

    def test_turned_over_place_by_place(self):
        for ring in some_rings():
            told, n = ring_over(ring), len(ring)
            least = ring.index(1)
            self.assertEqual([n + 1 - told[at - least] for at in range(n)], list(ring))

    def test_how_many(self):
        self.assertEqual([rings_many(n) for n in (2, 4, 6, 8, 10)], [1, 2, 16, 272, 7936])
        self.assertEqual(rings_many(8), len(all_rings(8)))

    def test_small_ones_by_going_through_all(self):
        for n in (2, 4, 6, 8):
            known = all_rings(n)
            self.assertEqual([ring_at(n, number) for number in range(rings_many(n))], known)
            self.assertEqual([ring_number(ring) for ring in known], list(range(len(known))))

    def test_great_ones_are_told_at_once_there_and_back(self):
        for n in range(10, 41, 2):
            ahead = ()
            for number in some_numbers(rings_many(n)):
                ring = ring_at(n, number)
                self.assertIs(type(ring), tuple)
                self.assertEqual(sorted(ring), list(range(1, n + 1)))
                self.assertTrue(about(ring) and ring[0] == n and ring > ahead)
                self.assertEqual(ring_number(ring), number)
                ahead = ring

    def test_the_first_and_the_last_of_forty(self):
        self.assertEqual(ring_at(40, 0), FIRST_OF_FORTY)
        self.assertEqual(ring_at(40, rings_many(40) - 1), LAST_OF_FORTY)
        self.assertEqual(ring_number(FIRST_OF_FORTY), 0)
        self.assertEqual(ring_number(LAST_OF_FORTY), rings_many(40) - 1)

    def test_what_is_no_even_number_is_refused(self):
        for thing in wrong_numbers() + WRONG_N:
            refused(self, NoNumber, rings_many, thing)
            for number in (0, 1, -1, None, True, "0", [0], GREAT):
                refused(self, NoNumber, ring_at, thing, number)

    def test_what_is_no_number_of_a_ring_is_refused(self):
        for n in (2, 4, 6, 38, 40):
            for thing in wrong_numbers() + [rings_many(n), rings_many(n) + 1]:
                refused(self, NoNumber, ring_at, n, thing)


def cut_otherwise(ring, place, many):
    """The order of what is passed from a place on, gone through one by one."""
    passed = []
    at = place - 1
    while len(passed) < many:
        passed.append(ring[at])
        at = 0 if at == len(ring) - 1 else at + 1
    return tuple(sum(other <= number for other in passed) for number in passed)


class Point72Test(unittest.TestCase):
    def test_ordinary_ones(self):
        ring = (6, 2, 5, 1, 4, 3)
        self.assertEqual(cut(ring, 2, 3), (2, 3, 1))
        self.assertEqual(cut(ring, 1, 2), (2, 1))

    def test_round_the_end(self):
        ring = (6, 2, 5, 1, 4, 3)
        self.assertEqual(cut(ring, 5, 4), (3, 2, 4, 1))
        self.assertEqual(cut(ring, 6, 2), (1, 2))
        self.assertEqual(cut((2, 1), 2, 2), (1, 2))

    def test_one_number(self):
        for ring in ((2, 1), (6, 2, 5, 1, 4, 3), MIDDLE_OF_FORTY):
            for place in range(1, len(ring) + 1):
                self.assertEqual(cut(ring, place, 1), (1,))

    def test_all_numbers(self):
        for ring in ((2, 1), (6, 2, 5, 1, 4, 3), MIDDLE_OF_FORTY):
            for at in range(len(ring)):
                self.assertEqual(cut(ring, at + 1, len(ring)), ring[at:] + ring[:at])

    def test_from_each_place_so_many(self):
        for ring in all_rings(2) + all_rings(4) + all_rings(6) + GREAT_RINGS:
            for place in range(1, len(ring) + 1):
                for many in range(1, len(ring) + 1):
                    self.assertEqual(cut(ring, place, many), cut_otherwise(ring, place, many))

    def test_what_is_no_ring_is_refused_first(self):
        for thing in wrong_rings():
            for place, many in ((1, 1), (0, 0), (None, "1"), ([1], 41)):
                refused(self, NoRing, cut, thing, place, many)

    def test_wrong_places_and_so_many_are_refused(self):
        for ring in ((2, 1), (6, 2, 5, 1, 4, 3), MIDDLE_OF_FORTY):
            for thing in wrong_numbers() + [0, len(ring) + 1, len(ring) + 2]:
                for other in (1, len(ring), 0, None, [1]):
                    refused(self, NoNumber, cut, ring, thing, other)
                refused(self, NoNumber, cut, ring, 1, thing)
                refused(self, NoNumber, cut, ring, len(ring), thing)


class Point73Test(unittest.TestCase):
    def test_ordinary_ones(self):
        self.assertEqual(side_by_side(4, 1, 4), 2)
        self.assertEqual(side_by_side(4, 1, 2), 0)
        self.assertEqual(side_by_side(4, 2, 4), 2)
        self.assertEqual(side_by_side(6, 2, 5), 10)

    def test_of_two_the_one_ring_is_counted_once(self):
        self.assertEqual(side_by_side(2, 1, 2), 1)
        self.assertEqual(side_by_side(2, 2, 1), 1)

    def test_small_ones_by_going_through_all(self):
        for n in (2, 4, 6, 8):
            found = [set(beside(ring)) for ring in all_rings(n)]
            for one in range(1, n + 1):
                for other in range(one + 1, n + 1):
                    known = sum((one, other) in pairs for pairs in found)
                    self.assertEqual(side_by_side(n, one, other), known)
                    self.assertEqual(side_by_side(n, other, one), known)

    def test_greater_ones_are_told_at_once(self):
        # Each ring of four and more has as many twos side by side as numbers.
        for n in (4, 10, 20, 28, 30):
            twos = [(one, other) for one in range(1, n + 1) for other in range(one + 1, n + 1)]
            self.assertEqual(sum(side_by_side(n, one, other) for one, other in twos), n * rings_many(n))

    def test_beside_each_number_of_thirty_stand_two(self):
        for one in (1, 2, 15, 16, 29, 30):
            counts = [side_by_side(30, one, other) for other in range(1, 31) if other != one]
            self.assertEqual(sum(counts), 2 * rings_many(30))

    def test_each_way_about_of_thirty(self):
        for one, other in ((1, 2), (1, 30), (29, 30), (7, 22), (15, 16)):
            self.assertEqual(side_by_side(30, one, other), side_by_side(30, other, one))
            # Turned over, each ring is another one.
            self.assertEqual(side_by_side(30, one, other), side_by_side(30, 31 - one, 31 - other))

    def test_two_alike_are_refused(self):
        for n in (2, 4, 8, 30):
            for one in range(1, n + 1):
                refused(self, NoNumber, side_by_side, n, one, one)

    def test_wrong_things_are_refused(self):
        for thing in wrong_numbers() + WRONG_N + [32, 34, 40]:
            for one, other in ((1, 2), (2, 1), (0, 0), (None, "1"), ([1], {})):
                refused(self, NoNumber, side_by_side, thing, one, other)
        for n in (2, 4, 30):
            for thing in wrong_numbers() + [0, n + 1]:
                for other in (1, 2, n, None, [1]):
                    refused(self, NoNumber, side_by_side, n, thing, other)
                for one in (1, 2, n):
                    refused(self, NoNumber, side_by_side, n, one, thing)


if __name__ == "__main__":
    unittest.main()

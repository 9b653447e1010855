"""What one file tells agrees with what another one tells of the same thing."""

import unittest
from itertools import permutations, product
from math import comb, factorial

from anything import alternating, refused, some_numbers
from desk_calls import refusal_of, told_otherwise
from upanddowns.desk import Desk
from upanddowns.ends import by_ends, many_between, many_with, numbers_at
from upanddowns.errors import TurnError
from upanddowns.loose import all_loose, loose_at, loose_many, loose_number, twin, twin_of
from upanddowns.numbers import all_updowns, number_of, updown_at
from upanddowns.orders import backward, is_updown, order_of, turned_over
from upanddowns.patterns import all_patterns, many_keep
from upanddowns.rings import (cut, other_way, ring_at, ring_number, ring_of, ring_over, rings_many, row_of_ring,
                              side_by_side)
from upanddowns.sums import parts, share, signed_row, sum_to
from upanddowns.texts import (fraction_read, fraction_text, loose_read, loose_text, order_read, order_text,
                              pattern_read, pattern_text, tree_read, tree_text)
from upanddowns.trees import full_by_left, is_full, tree_of
from upanddowns.triangle import all_many, many, row


class RingsTest(unittest.TestCase):
    def test_rings_are_the_up_downs_of_one_fewer_by_number(self):
        for n in range(2, 41, 2):
            self.assertEqual(rings_many(n), many(n - 1))
            for number in some_numbers(many(n - 1)):
                updown = updown_at(n - 1, number)
                self.assertEqual(ring_at(n, number), ring_of(updown))
                self.assertEqual(row_of_ring(ring_at(n, number)), updown)
                self.assertEqual(ring_number(ring_of(updown)), number_of(updown))

    def test_the_other_way_is_the_up_down_from_behind(self):
        for number in some_numbers(many(39)):
            updown = updown_at(39, number)
            self.assertEqual(row_of_ring(other_way(ring_of(updown))), backward(updown))

    def test_a_cut_of_all_is_turned_over_with_the_ring(self):
        for number in some_numbers(rings_many(40)):
            ring = ring_at(40, number)
            self.assertEqual(cut(ring_over(ring), 1 + ring_over(ring).index(1), 40), turned_over(ring))
            self.assertEqual(cut(ring, 2, 39), row_of_ring(ring))
            self.assertTrue(is_updown(cut(ring, 2, 38)))

    def test_side_by_side_is_twice_first_and_last(self):
        for n in (4, 6, 14, 28, 30):
            for one in range(1, n):
                other = one + 1 + one * 7 % (n - one)
                known = 2 * many_between(n, one, other)
                self.assertEqual([side_by_side(n, one, other), side_by_side(n, other, one)], [known, known])

    def test_side_by_side_is_told_of_what_begins_and_ends_so(self):
        for n in (4, 6, 8):
            counts = {ends: len(updowns) for ends, updowns in by_ends(n).items()}
            for one, other in product(range(1, n + 1), repeat=2):
                if one < other:
                    self.assertEqual(side_by_side(n, other, one), 2 * counts.get((one, other), 0))


class SumsTest(unittest.TestCase):
    def test_parts_are_told_of_how_many_up_downs_there_are(self):
        counts = [1] + all_many(60)
        for n in range(61):
            self.assertEqual(parts(n)[0], counts[n])
            self.assertEqual(parts(n), [comb(n, k) * counts[k] * counts[n - k] for k in range(n + 1)])
        for n in range(1, 60):
            self.assertEqual(sum(parts(n)), 2 * many(n + 1))

    def test_parts_at_odd_places_come_to_the_greatest_at_even_places(self):
        # Ahead of the greatest stands an odd number of numbers, and they go up and down to it.
        for n in range(2, 30):
            self.assertEqual(sum(parts(n - 1)[1::2]), many(n))
            self.assertEqual(parts(n - 1)[1::2], [many_with(n, place, n) for place in range(2, n + 1, 2)])
            self.assertEqual(parts(n - 1)[1::2], full_by_left(n)[1::2])

    def test_a_sum_grows_by_how_many_up_downs_there_are(self):
        for n in range(1, 31):
            (top, bottom), (top_ahead, bottom_ahead) = sum_to((1, 1), n), sum_to((1, 1), n - 1)
            self.assertEqual((top * bottom_ahead - top_ahead * bottom) * factorial(n), many(n) * bottom * bottom_ahead)

    def test_shares_are_told_of_how_many_up_downs_there_are(self):
        for n in range(2, 61, 2):
            top, bottom = share(n)
            self.assertEqual(abs(top) * 2 ** n * (2 ** n - 1), bottom * n * many(n - 1))
            self.assertEqual(top > 0, n % 4 == 2)

    def test_signed_rows_are_told_of_how_many_up_downs_there_are(self):
        self.assertEqual([abs(number) for number in signed_row(40)[2::2]], all_many(40)[1::2])
        self.assertEqual([number > 0 for number in signed_row(40)[::2]], [k % 4 == 0 for k in range(0, 41, 2)])


class CountsTest(unittest.TestCase):
    def test_all_that_count_up_downs_agree(self):
        for n in range(1, 31):
            known = many(n)
            self.assertEqual(many_keep(("ud" * n)[:n - 1]), known)
            self.assertEqual(loose_many(n), known)
            self.assertEqual(sum(full_by_left(n)), known)
            self.assertEqual(sum(numbers_at(n, (n + 1) // 2)), known)
            self.assertEqual(numbers_at(n, 1), row(n))

    def test_small_ones_agree(self):
        for n in range(1, 8):
            self.assertEqual(len(all_updowns(n)), many(n))
            self.assertEqual([twin(updown) for updown in all_updowns(n)], all_loose(n))
            self.assertEqual(max(all_patterns(n).values()), many(n))
            full = [order for order in permutations(range(1, n + 1)) if is_full(tree_of(order))]
            self.assertEqual(full, all_updowns(n))

    def test_the_order_of_what_is_cut_and_of_a_row_are_the_same(self):
        ring = ring_at(40, many(39) // 7)
        self.assertEqual(cut(ring, 5, 17), order_of(ring[4:21]))


class TextsTest(unittest.TestCase):
    def test_great_ones_are_read_back_to_what_was_written(self):
        for number in some_numbers(many(40)):
            updown, loose = updown_at(40, number), loose_at(40, number)
            self.assertEqual(order_read(order_text(updown)), updown)
            self.assertEqual(tree_read(tree_text(tree_of(updown))), tree_of(updown))
            self.assertEqual(loose_read(loose_text(loose)), loose)
            self.assertEqual(twin_of(loose_read(loose_text(twin(updown)))), updown)
            self.assertEqual(loose_number(loose_read(loose_text(loose))), number)

    def test_patterns_are_read_back_to_what_was_written(self):
        for n in range(1, 9):
            for pattern in all_patterns(n):
                self.assertEqual(pattern_read(pattern_text(pattern)), pattern)

    def test_shares_of_at_most_nine_figures_are_read_back(self):
        for n in list(range(21)) + [23, 25, 59]:
            self.assertEqual(fraction_read(fraction_text(share(n))), share(n))
            self.assertEqual(sum_to(fraction_read("-" + str(n + 1)), 1), (-n, 1))


class DeskTest(unittest.TestCase):
    def test_any_rows_in_any_order(self):
        """All runs of four of these rows are answered, and refused, by the deeds that stand alone."""
        rows = ("order 2 3 1", "order 4 3 2 1", "order 0", "up 3 0", "keep d 0", "over", "backward", "contrary",
                "out 2", "on", "back", "number", "turns", "ring", "out", "tree")
        for run in product(rows, repeat=4):
            told, deeds = Desk(), []
            for row_told in run:
                try:
                    known, deeds = told_otherwise(deeds, row_told)
                except TurnError as error:
                    refused(self, type(error), told.say, row_told)
                else:
                    self.assertEqual(told.say(row_told), known)
            self.assertEqual(told.say("order"), told_otherwise(deeds, "order")[0])

    def test_the_answers_are_the_calls_that_they_stand_for(self):
        kept = ["1", "1 2", "2 1", "2 3 1", "3 1 2", "2 3 1 4", "4 1 3 2", "5 4 3 2 1"]
        kept += [order_text(alternating(n)) for n in (7, 39, 40)]
        rows = ["order", "turns", "number", "tree", "full", "twin", "ring", "on", "over", "backward", "contrary"]
        rows += ["back"] + [f"out {number}" for number in (0, 1, 2, 5, 40)]
        rows += [f"keeps {word}" for word in ("-", "u", "ud", "??", "?u?")]
        for deed, row_told in product(["order " + order for order in kept], rows):
            told = Desk()
            told.say(deed)
            refusal = refusal_of(told_otherwise, [deed], row_told)
            if refusal is None:
                self.assertEqual(told.say(row_told), told_otherwise([deed], row_told)[0])
            else:
                refused(self, refusal, told.say, row_told)

    def test_what_hangs_on_no_order_is_told_as_the_calls_tell_it(self):
        told = Desk()
        self.assertEqual([told.say(f"ups {n}") for n in range(1, 61)], [str(count) for count in all_many(60)])
        self.assertEqual([told.say(f"share {n}") for n in range(61)], [fraction_text(share(n)) for n in range(61)])
        for pattern, count in all_patterns(7).items():
            self.assertEqual(told.say("many " + pattern_text(pattern)), str(count))


if __name__ == "__main__":
    unittest.main()

import unittest
from itertools import permutations, product
from math import comb

from anything import alternating, chain, refused, told_anew, wrong_numbers, wrong_orders, wrong_trees
from upanddowns import trees
from upanddowns.errors import NoNumber, NoOrder, NoTree
from upanddowns.orders import is_updown
from upanddowns.triangle import many
from upanddowns.trees import full_by_left, is_full, is_tree, order_of, tree_of

FORTY = tuple(range(1, 41))
MIXED = tuple(at * 7 % 41 for at in range(1, 41))
FULL_FORTY = alternating(40)


def all_orders(longest):
    for n in range(1, longest + 1):
        yield from permutations(range(1, n + 1))


def hung(order):
    """The tree of an order, made otherwise: the greatest above, what stands beside it under it."""
    pairs = {}

    def hang(part):
        if not part:
            return 0
        at = part.index(max(part))
        pairs[part[at]] = (hang(part[:at]), hang(part[at + 1:]))
        return part[at]

    hang(order)
    return tuple(pairs[number] for number in range(1, len(order) + 1))


def read(tree, number):
    """What is read from a number on, by the words of the point."""
    if number == 0:
        return ()
    left, right = tree[number - 1]
    return read(tree, left) + (number,) + read(tree, right)


def full_by_words(tree):
    last = read(tree, len(tree))[-1]
    for number, (left, right) in enumerate(tree, start=1):
        if number == last and len(tree) % 2 == 0:
            if left == 0 or right != 0:
                return False
        elif (left == 0) != (right == 0):
            return False
    return True


class InterfaceTest(unittest.TestCase):
    def test_each_function_is_defined_in_its_file(self):
        for asked in (is_tree, order_of, tree_of, is_full, full_by_left):
            self.assertIs(getattr(trees, asked.__name__), asked)
            self.assertEqual(asked.__module__, "upanddowns.trees")


class Point60Test(unittest.TestCase):
    def test_trees_are_told(self):
        for tree in (((0, 0),), ((0, 0), (1, 0)), ((0, 0), (0, 1)), ((0, 0), (0, 0), (2, 1)),
                     ((0, 0), (0, 1), (0, 0), (3, 2)), chain(39), chain(40), hung(MIXED), hung(FULL_FORTY)):
            self.assertIs(is_tree(tree), True)

    def test_small_ones_are_told_by_going_through_all_tuples_of_pairs(self):
        for n, numbers in ((1, range(-1, 3)), (2, range(-1, 4)), (3, range(-1, 4)), (4, range(4))):
            good = {hung(order) for order in permutations(range(1, n + 1))}
            pairs = list(product(numbers, repeat=2))
            found = [thing for thing in product(pairs, repeat=n) if is_tree(thing)]
            self.assertEqual(set(found), good)

    def test_anything_else_is_none(self):
        for thing in wrong_trees():
            self.assertIs(is_tree(thing), False, thing)

    def test_the_order_that_is_read(self):
        self.assertEqual(order_of(((0, 0),)), (1,))
        self.assertEqual(order_of(((0, 0), (1, 0))), (1, 2))
        self.assertEqual(order_of(((0, 0), (0, 1))), (2, 1))
        self.assertEqual(order_of(((0, 0), (0, 0), (2, 1))), (2, 3, 1))
        self.assertEqual(order_of(((0, 0), (0, 1), (0, 0), (3, 2))), (3, 4, 2, 1))
        self.assertEqual(order_of(chain(40)), FORTY[::-1])

    def test_the_tree_of_an_order(self):
        self.assertEqual(tree_of((1,)), ((0, 0),))
        self.assertEqual(tree_of((1, 2)), ((0, 0), (1, 0)))
        self.assertEqual(tree_of((2, 1)), ((0, 0), (0, 1)))
        self.assertEqual(tree_of((2, 3, 1)), ((0, 0), (0, 0), (2, 1)))
        self.assertEqual(tree_of((3, 5, 1, 4, 2)), ((0, 0), (0, 0), (0, 0), (1, 2), (3, 4)))
        self.assertEqual(tree_of(FORTY[::-1]), chain(40))
        self.assertEqual(tree_of(FORTY), tuple((number, 0) for number in range(40)))

    def test_there_and_back_for_all_small_and_for_great_orders(self):
        for order in list(all_orders(7)) + [FORTY, FORTY[::-1], MIXED, MIXED[::-1], FULL_FORTY]:
            tree = tree_of(order)
            self.assertEqual([type(thing) for thing in (tree,) + tree], [tuple] * (len(order) + 1))
            self.assertTrue(is_tree(tree))
            self.assertEqual(tree, hung(order))
            self.assertEqual(read(tree, len(tree)), order)
            self.assertEqual(order_of(tree), order)

    def test_what_is_no_tree_is_refused(self):
        for thing in wrong_trees():
            refused(self, NoTree, order_of, thing)

    def test_what_is_no_order_is_refused(self):
        for thing in wrong_orders() + [((0, 0),), ((0, 0), (1, 0))]:
            refused(self, NoOrder, tree_of, thing)


class Point61Test(unittest.TestCase):
    def test_full_ones(self):
        for tree in (((0, 0),), ((0, 0), (1, 0)), ((0, 0), (0, 0), (1, 2)), ((0, 0), (0, 0), (2, 1)),
                     ((0, 0), (0, 0), (2, 0), (1, 3)), hung(FULL_FORTY), hung(FULL_FORTY[:-1])):
            self.assertIs(is_full(tree), True)

    def test_ordinary_ones_of_an_even_and_an_odd_number(self):
        self.assertIs(is_full(((0, 0), (0, 0), (1, 2))), True)
        self.assertIs(is_full(((0, 0), (1, 0), (2, 0))), False)
        self.assertIs(is_full(((0, 0), (1, 0), (0, 2))), False)
        self.assertIs(is_full(((0, 0), (0, 1))), False)
        self.assertIs(is_full(((0, 0), (0, 0), (2, 0), (1, 3))), True)
        self.assertIs(is_full(((0, 0), (0, 0), (2, 0), (3, 1))), False)
        self.assertIs(is_full(((0, 0), (0, 0), (0, 2), (1, 3))), False)
        self.assertIs(is_full(chain(40)), False)
        self.assertIs(is_full(chain(39)), False)

    def test_all_small_trees(self):
        for order in all_orders(7):
            tree = hung(order)
            self.assertIs(is_full(tree), full_by_words(tree))
            self.assertIs(is_full(tree), is_updown(order))

    def test_forty_numbers(self):
        self.assertIs(is_full(hung(FULL_FORTY)), True)
        self.assertIs(is_full(hung(FULL_FORTY[::-1])), False)
        for at in range(0, 39, 4):
            other = FULL_FORTY[:at] + (FULL_FORTY[at + 1], FULL_FORTY[at]) + FULL_FORTY[at + 2:]
            self.assertIs(is_full(hung(other)), False)
            self.assertIs(full_by_words(hung(other)), False)

    def test_what_is_no_tree_is_refused(self):
        for thing in wrong_trees():
            refused(self, NoTree, is_full, thing)

    def test_first_lists(self):
        self.assertEqual(full_by_left(1), [1])
        self.assertEqual(full_by_left(2), [0, 1])
        self.assertEqual(full_by_left(3), [0, 2, 0])
        self.assertEqual(full_by_left(4), [0, 3, 0, 2])
        self.assertEqual(full_by_left(5), [0, 8, 0, 8, 0])

    def test_small_ones_by_going_through_all_trees(self):
        for n in range(1, 9):
            found = [0] * n
            for order in permutations(range(1, n + 1)):
                if is_updown(order) and full_by_words(hung(order)):
                    tree = hung(order)
                    found[len(read(tree, tree[-1][0]))] += 1
            self.assertEqual(full_by_left(n), found)

    def test_great_ones_are_told_at_once(self):
        for n in range(2, 41):
            told = full_by_left(n)
            self.assertIs(type(told), list)
            self.assertEqual(sum(told), many(n))
            known = [0] * n
            for left in range(1, n, 2):
                right = n - 1 - left
                known[left] = comb(n - 1, left) * many(left) * (many(right) if right else 1)
            self.assertEqual(told, known)

    def test_wrong_numbers_are_refused(self):
        for thing in wrong_numbers() + [0, 41, 42, 60]:
            refused(self, NoNumber, full_by_left, thing)

    def test_told_anew(self):
        for n in (1, 2, 5, 40):
            told_anew(self, full_by_left, n)


if __name__ == "__main__":
    unittest.main()

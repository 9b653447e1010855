import unittest
from itertools import permutations, product
from math import gcd

from anything import (alternating, chain, no_texts, nothings, refused, wrong_fractions, wrong_looses, wrong_orders,
                      wrong_patterns, wrong_trees)
from upanddowns import texts
from upanddowns.errors import NoFraction, NoLoose, NoOrder, NoPattern, NoText, NoTree
from upanddowns.loose import all_loose
from upanddowns.sums import share
from upanddowns.texts import (fraction_read, fraction_text, loose_read, loose_text, order_read, order_text,
                              pattern_read, pattern_text, tree_read, tree_text)
from upanddowns.trees import tree_of

READERS = (order_read, pattern_read, tree_read, loose_read, fraction_read)
NINE = 999999999

# What is written, and how it is.
ORDERS = {
    (1,): "1", (1, 2): "1 2", (2, 1): "2 1", (3, 1, 4, 2): "3 1 4 2",
    (10, 2, 3, 4, 5, 6, 7, 8, 9, 1): "10 2 3 4 5 6 7 8 9 1",
    alternating(40): " ".join(str(number) for number in alternating(40)),
    tuple(range(40, 0, -1)): " ".join(str(number) for number in range(40, 0, -1)),
}
PATTERNS = {
    "": "-", "u": "u", "d": "d", "?": "?", "ud?": "ud?", "??": "??", "u" * 39: "u" * 39,
    "?d" * 19 + "u": "?d" * 19 + "u",
}
TREES = {
    ((0, 0),): "0/0", ((0, 0), (1, 0)): "0/0 1/0", ((0, 0), (0, 1)): "0/0 0/1",
    ((0, 0), (0, 0), (2, 1)): "0/0 0/0 2/1", chain(40): " ".join(f"0/{number}" for number in range(40)),
    chain(12): "0/0 0/1 0/2 0/3 0/4 0/5 0/6 0/7 0/8 0/9 0/10 0/11",
}
LOOSES = {
    (): "-", (1,): "1", (1, 1): "1 1", (1, 2): "1 2", (1, 2, 1): "1 2 1", (1, 1, 2, 2, 3): "1 1 2 2 3",
    tuple(range(1, 40)): " ".join(str(number) for number in range(1, 40)),
}
FRACTIONS = {
    (0, 1): "0", (1, 1): "1", (-1, 1): "-1", (10, 1): "10", (1, 2): "1/2", (-1, 2): "-1/2", (3, 10): "3/10",
    (-22, 7): "-22/7", (1, NINE): "1/999999999", (NINE, 1): "999999999", (-NINE, 1): "-999999999",
    (NINE, NINE - 1): "999999999/999999998", (-NINE, NINE - 1): "-999999999/999999998",
}
WRITTEN = (ORDERS, PATTERNS, TREES, LOOSES, FRACTIONS)
WRITERS = (order_text, pattern_text, tree_text, loose_text, fraction_text)


def written_otherwise(text):
    """The text with a sign more or another one at each place, and one sign less."""
    found = [text + "\n", "\n" + text, text + "\t", "+" + text, "(" + text + ")", text * 7, text.upper() + "."]
    for at in range(len(text) + 1):
        for sign in (" ", "0", "-", "_", ",", "\t", "\n", "+", ".", "/", "x", "\u0661", "\u00b2", "\uff11", "\u00a0"):
            found.append(text[:at] + sign + text[at:])
            found.append(text[:at] + sign + text[at + 1:])
        found.append(text[:at] + text[at + 1:])
    return [other for other in found if len(other) <= 300]


class InterfaceTest(unittest.TestCase):
    def test_each_function_is_defined_in_its_file(self):
        for asked in READERS + WRITERS:
            self.assertIs(getattr(texts, asked.__name__), asked)
            self.assertEqual(asked.__module__, "upanddowns.texts")


class Point90Test(unittest.TestCase):
    def test_each_is_written(self):
        for written, writer in zip(WRITTEN, WRITERS):
            for thing, text in written.items():
                told = writer(thing)
                self.assertIs(type(told), str)
                self.assertEqual(told, text)

    def test_fractions_of_many_figures_are_written(self):
        self.assertEqual(fraction_text(share(60)), "-1215233140483755572040304994079820246041491/56786730")
        self.assertEqual(fraction_text((-10 ** 49, 3)), "-1" + "0" * 49 + "/3")

    def test_what_is_none_is_refused(self):
        for wrong, refusal, writer in (
                (wrong_orders(), NoOrder, order_text), (wrong_patterns(), NoPattern, pattern_text),
                (wrong_trees(), NoTree, tree_text), (wrong_looses(), NoLoose, loose_text),
                (wrong_fractions(), NoFraction, fraction_text)):
            for thing in wrong:
                refused(self, refusal, writer, thing)


class Point91Test(unittest.TestCase):
    def test_each_is_read(self):
        for written, reader in zip(WRITTEN, READERS):
            for thing, text in written.items():
                told = reader(text)
                self.assertIs(type(told), type(thing))
                self.assertEqual(told, thing)

    def test_all_small_ones_are_read_as_they_are_written(self):
        orders = [order for n in range(1, 7) for order in permutations(range(1, n + 1))]
        for order in orders:
            self.assertEqual(order_read(order_text(order)), order)
            self.assertEqual(tree_read(tree_text(tree_of(order))), tree_of(order))
        for loose in [loose for n in range(1, 7) for loose in all_loose(n)]:
            self.assertEqual(loose_read(loose_text(loose)), loose)
        for signs in [signs for length in range(6) for signs in product("ud?", repeat=length)]:
            self.assertEqual(pattern_read(pattern_text("".join(signs))), "".join(signs))
        for x in [(top, bottom) for top in range(-20, 21) for bottom in range(1, 21) if gcd(top, bottom) == 1]:
            self.assertEqual(fraction_read(fraction_text(x)), x)

    def test_of_all_short_texts_those_alone_are_read_that_are_written(self):
        signs = "012-/ ?u"
        written = short_ones_written()
        for text in ["".join(some) for length in range(6) for some in product(signs, repeat=length)]:
            for reader, known in zip(READERS, written):
                if text in known:
                    self.assertEqual(reader(text), known[text])
                else:
                    refused(self, NoText, reader, text)

    def test_of_texts_with_a_sign_otherwise_those_alone_are_read_that_are_written(self):
        for written, reader, writer in zip(WRITTEN, READERS, WRITERS):
            for text in [other for right in written.values() for other in written_otherwise(right)]:
                try:
                    told = reader(text)
                except ValueError:
                    refused(self, NoText, reader, text)
                else:
                    self.assertEqual(writer(told), text)

    def test_other_figures_and_signs_are_refused(self):
        for text in ("\u0661", "\u00b2", "\uff11", "1_0", "+1", "1.", "1e0", "0x1", "0b1", "one", "\u22121",
                     "1\u00a02", "1  2", " 1 2", "1 2 ", "1\t2", "1\n2", "1,2", "1, 2", "(1, 2)", "[1]", "01", "00",
                     "-0", "1 02", "--1", "1-", "/", "//", "1/", "/1", "1//2", "0/0/0", "None", "True", "", " ", "  ",
                     "\n", "x" * 300, "U", "UD", "u d", "ud ", " ud", "ud-", "-u", "--", "- ", " -", "0/0 ", " 0/0",
                     "0/0  1/0", "0 /0", "0/ 0", "00/0", "-0/0", "0/-0", "0/+0", "9" * 300, "1 " * 150, "1/" * 150,
                     "-" * 300):
            for reader in READERS:
                refused(self, NoText, reader, text)

    def test_what_is_written_right_but_is_none(self):
        for text in ("0", "2", "-1", "1 1", "1 3", "2 3", "0 1", "1 2 2", "1 -2", "999999999", "9999999999"):
            refused(self, NoText, order_read, text)
        refused(self, NoText, order_read, " ".join(str(number) for number in range(1, 42)))
        # The last of these is how the document shows the form, but 2 does not hang under a greater one.
        for text in ("0/1", "1/0", "0/0 0/0", "0/0 1/1", "0/0 2/0", "0/0 0/-1", "0 0", "0/0 1", "0/0 1/0/0", "0/2 0/0"):
            refused(self, NoText, tree_read, text)
        refused(self, NoText, tree_read, " ".join(f"0/{number}" for number in range(41)))
        for text in ("0", "2", "-1", "1 3", "1 1 1", "1 2 2 2", "2 1", "1 0", "1 -1", "9999999999"):
            refused(self, NoText, loose_read, text)
        refused(self, NoText, loose_read, " ".join(str(number) for number in range(1, 41)))
        for text in ("u" * 40, "?" * 300, "x", "u-", "0"):
            refused(self, NoText, pattern_read, text)

    def test_fractions_that_are_not_so_written(self):
        for text in ("0/1", "1/1", "-1/1", "7/1", "0/2", "2/4", "-2/4", "6/9", "1/0", "0/0", "1/-2", "-1/-2", "1/-1",
                     "1/02", "01/2", "-01/2", "1/2/3", "1/2/1", "1 2", "1 /2", "1/ 2", "-", "-/2", "1/-", "1/2 "):
            refused(self, NoText, fraction_read, text)

    def test_fractions_of_nine_figures_and_of_ten(self):
        for text in ("1000000000", "-1000000000", "1/1000000001", "1000000001/2", "-1000000001/999999999",
                     "999999999/1000000000", "1234567891/1234567890", "1" * 50, "1/" + "3" * 50, "1" * 300):
            refused(self, NoText, fraction_read, text)
        self.assertEqual(fraction_read("-100000000/999999999"), (-100000000, NINE))

    def test_what_is_no_text_is_refused(self):
        for thing in no_texts() + [thing for thing in nothings() if not isinstance(thing, str)]:
            for reader in READERS:
                refused(self, NoText, reader, thing)


def short_ones_written():
    """For each reader a dict: what is written in at most five signs, by its text, reckoned otherwise."""
    orders = {"1": (1,), "1 2": (1, 2), "2 1": (2, 1)}
    patterns = {"".join(signs): "".join(signs) for length in range(1, 6) for signs in product("u?", repeat=length)}
    patterns["-"] = ""
    looses = {"-": (), "1": (1,), "1 1": (1, 1), "1 2": (1, 2)}
    looses.update({" ".join(map(str, three)): three for three in product((1, 2), repeat=3)
                   if three[0] == 1 and three != (1, 1, 1)})
    fractions = {str(top): (top, 1) for top in range(-9999, 100000)}
    for bottom in range(2, 1000):
        for top in range(-99, 1000):
            if gcd(top, bottom) == 1:
                fractions[f"{top}/{bottom}"] = (top, bottom)
    return orders, patterns, {"0/0": ((0, 0),)}, looses, fractions


if __name__ == "__main__":
    unittest.main()

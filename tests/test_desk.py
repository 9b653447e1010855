import unittest
from itertools import product

from anything import GREAT, alternating, no_texts, nothings, refused
from desk_calls import FORMS, refusal_of, told_otherwise
from upanddowns import desk
from upanddowns.desk import Desk
from upanddowns.errors import NoDeed, NoLine, NoNumber, NoText, NotUpDown, TurnError
from upanddowns.numbers import updown_at
from upanddowns.patterns import many_keep
from upanddowns.texts import order_text
from upanddowns.triangle import many

FIFTY = "1" * 50
FIFTY_ONE = "1" * 51


class DeskTest(unittest.TestCase):
    def tell(self, *rows):
        """A desk to which these rows have been told."""
        told = Desk()
        for row in rows:
            told.say(row)
        return told

    def answered(self, text, *rows):
        told = self.tell(*rows[:-1]).say(rows[-1])
        self.assertIs(type(told), str)
        self.assertEqual(told, text, rows)

    def refuses(self, refusal, *rows):
        """The last of the rows is refused, and what is kept is left as it was."""
        told = self.tell(*rows[:-1])
        kept = told.say("order")
        refused(self, refusal, told.say, rows[-1])
        self.assertEqual(told.say("order"), kept)


class InterfaceTest(unittest.TestCase):
    def test_the_class_and_its_method_are_defined_in_the_file(self):
        self.assertIs(desk.Desk, Desk)
        self.assertEqual(Desk.__module__, "upanddowns.desk")
        self.assertIn("say", vars(Desk))


class Point92Test(DeskTest):
    def test_at_first_it_keeps_the_order_of_one(self):
        self.answered("1", "order")

    def test_an_order_is_kept(self):
        self.answered("2 3 1", "order 2 3 1")
        self.answered("2 3 1", "order 2 3 1", "order")
        self.answered("1", "order 2 3 1", "order 1")
        long = order_text(alternating(40))
        self.answered(long, "order " + long)

    def test_an_order_that_is_not_so_written_is_refused_with_no_text(self):
        for behind in ("", " ", "  ", " 1", "1 ", "1  2", "0", "2", "1 1", "01", "-1", "-", "x", "1,2", "(1,)",
                       "order 1", "1\n", "\n1", "\t1", "+1", "1/2", "u", "\u0661", "9" * 290,
                       order_text(alternating(40)) + " 41"):
            self.refuses(NoText, "order 2 1", "order " + behind)

    def test_an_up_down_is_kept(self):
        self.answered("1", "up 1 0")
        self.answered("2 3 1 4", "up 4 2")
        self.answered("2 3 1 4", "up 4 2", "order")
        last = many(40) - 1
        self.answered(order_text(updown_at(40, last)), f"up 40 {last}")

    def test_what_is_no_up_down_by_number_is_refused_with_no_number(self):
        for row in ("up 0 0", "up 1 1", "up 4 5", "up 41 0", "up 60 0", f"up 40 {many(40)}", "up 3 " + FIFTY,
                    "up " + FIFTY + " 0", "up " + FIFTY + " " + FIFTY):
            self.refuses(NoNumber, "order 2 1", row)

    def test_an_order_that_keeps_a_pattern_is_kept(self):
        self.answered("1", "keep - 0")
        self.answered("3 4 2 1", "keep ud? 7")
        self.answered("3 2 1", "keep dd 0", "order")
        last = many_keep("?" * 39) - 1
        self.answered(order_text(tuple(range(40, 0, -1))), f"keep {'?' * 39} {last}")

    def test_what_is_no_number_of_a_pattern_is_refused_with_no_number(self):
        for row in ("keep - 1", "keep dd 1", "keep ud? 8", "keep ? " + FIFTY, f"keep {'u' * 39} 1"):
            self.refuses(NoNumber, "order 2 1", row)

    def test_the_kept_one_is_turned(self):
        self.answered("2 3 1", "order 2 1 3", "over")
        self.answered("3 1 2", "order 2 1 3", "backward")
        self.answered("3 1 2", "order 2 3 1", "contrary")
        self.answered("1", "over", "backward", "contrary")
        self.answered("1 3 2", "order 2 3 1", "over", "contrary", "over", "backward", "contrary", "order")

    def test_a_number_is_taken_out(self):
        self.answered("2 1 3", "order 3 1 4 2", "out 2")
        self.answered("2 1", "order 3 1 4 2", "out 2", "out 2", "order 2 1", "order")
        self.answered("1", "order 2 1", "out 1")

    def test_what_is_not_to_be_taken_out_is_refused_with_no_number(self):
        for row in ("out 0", "out 5", "out 41", "out " + FIFTY):
            self.refuses(NoNumber, "order 3 1 4 2", row)
        self.refuses(NoNumber, "out 1")
        self.refuses(NoNumber, "out 2")

    def test_on_to_the_next_up_down(self):
        self.answered("1 4 2 3", "up 4 0", "on")
        self.answered("3 4 1 2", "up 4 0", "on", "on", "on", "on")

    def test_on_from_the_last_up_down_is_no_deed(self):
        for rows in ((), ("up 2 0",), ("up 3 1",), ("up 4 4",), (f"up 40 {many(40) - 1}",), ("up 4 3", "on")):
            self.refuses(NoDeed, *rows, "on")

    def test_on_from_no_up_down_is_refused(self):
        for row in ("order 2 1", "order 1 2 3", "order 3 2 1", "order 2 1 3", "keep dd 0"):
            self.refuses(NotUpDown, row, "on")

    def test_back_undoes_the_last_deed_that_stands(self):
        told = self.tell("order 2 3 4 1", "over", "backward", "contrary", "out 3", "up 5 3", "on", "keep dd 0")
        answers = [told.say("back") for _ in range(8)]
        self.assertEqual(answers, ["1 5 3 4 2", "1 5 2 4 3", "2 3 1", "2 3 4 1", "4 1 2 3", "3 2 1 4", "2 3 4 1", "1"])
        self.assertEqual(told.say("order"), "1")

    def test_back_once_more_than_deeds_stand_is_no_deed(self):
        self.refuses(NoDeed, "back")
        self.refuses(NoDeed, "over", "back", "back")
        self.refuses(NoDeed, "up 5 3", "up 4 2", "back", "on", "back", "back", "back")

    def test_back_undoes_a_deed_that_left_the_order_as_it_was(self):
        self.answered("2 1", "order 2 1", "over", "over", "order 1 2", "order 1 2", "back", "back")
        self.answered("1", "order 1", "over", "back", "back")
        self.refuses(NoDeed, "order 1", "over", "back", "back", "back")

    def test_what_is_undone_is_not_undone_again(self):
        self.answered("1 2", "order 1 2", "order 2 1", "back", "order 3 2 1", "back")
        self.answered("1", "order 1 2", "order 2 1", "back", "order 3 2 1", "back", "back")

    def test_refused_rows_and_questions_are_no_deeds(self):
        told = self.tell("order 1 2", "order 2 1")
        for row in ("on", "out 3", "up 0 0", "order 2", "back 1", "number", "no", "keep u 1", "ring", "ups 61"):
            self.assertRaises(TurnError, told.say, row)
        for row in ("order", "turns", "keeps d", "many d", "ups 60", "tree", "full", "share 60"):
            told.say(row)
        self.assertEqual([told.say("back"), told.say("back")], ["1 2", "1"])
        refused(self, NoDeed, told.say, "back")

    def test_as_many_deeds_as_are_told(self):
        told = self.tell("up 9 0")
        kept = [told.say("order")] + [told.say("on") for _ in range(1000)]
        self.assertEqual([told.say("back") for _ in range(1000)], kept[:-1][::-1])
        self.assertEqual(told.say("back"), "1")
        refused(self, NoDeed, told.say, "back")


class Point93Test(DeskTest):
    def test_of_the_first_order(self):
        for row, text in (("order", "1"), ("turns", "-"), ("number", "0"), ("keeps -", "yes"), ("keeps u", "no"),
                          ("tree", "0/0"), ("full", "yes"), ("twin", "-"), ("ring", "2 1")):
            self.answered(text, row)

    def test_of_an_up_down(self):
        for row, text in (("order", "2 3 1"), ("turns", "ud"), ("number", "1"), ("keeps ud", "yes"),
                          ("keeps ??", "yes"), ("keeps du", "no"), ("keeps u", "no"), ("keeps -", "no"),
                          ("tree", "0/0 0/0 2/1"), ("full", "yes"), ("twin", "1 2"), ("ring", "4 2 3 1")):
            self.answered(text, "order 2 3 1", row)

    def test_of_an_up_down_of_an_even_number(self):
        self.answered("2", "order 2 3 1 4", "number")
        self.answered("1 2 1", "order 2 3 1 4", "twin")
        self.answered("yes", "order 2 3 1 4", "full")
        self.refuses(NotUpDown, "order 2 3 1 4", "ring")

    def test_of_no_up_down(self):
        for row in ("number", "twin", "ring"):
            self.refuses(NotUpDown, "order 3 1 2", row)
        for row, text in (("turns", "du"), ("tree", "0/0 1/0 0/2"), ("full", "no"), ("keeps d?", "yes")):
            self.answered(text, "order 3 1 2", row)

    def test_of_all_orders(self):
        self.answered("8", "many ud?")
        self.answered("1", "many -")
        self.answered(str(many_keep("?" * 39)), "many " + "?" * 39)
        self.answered("16", "ups 5")
        self.answered(str(many(60)), "ups 60")
        self.answered("1", "share 0")
        self.answered("-1/2", "share 1")
        self.answered("0", "share 3")
        self.answered("-1215233140483755572040304994079820246041491/56786730", "share 60")

    def test_what_is_no_n_is_refused_with_no_number(self):
        for row in ("ups 0", "ups 61", "ups " + FIFTY, "share 61", "share 62", "share " + FIFTY):
            self.refuses(NoNumber, row)

    def test_questions_change_nothing(self):
        told = self.tell("up 5 3", "on")
        rows = ["order", "turns", "number", "keeps udud", "many ??", "ups 7", "tree", "full", "twin", "ring", "share 8"]
        answers = [told.say(row) for row in rows]
        self.assertEqual([told.say(row) for row in rows[::-1]], answers[::-1])
        self.assertEqual([told.say("back"), told.say("back")], ["1 5 2 4 3", "1"])


class Point94Test(DeskTest):
    def test_what_is_no_text(self):
        told = self.tell("order 2 1")
        for thing in no_texts() + [thing for thing in nothings() if not isinstance(thing, str)]:
            refused(self, NoLine, told.say, thing)
        self.assertEqual(told.say("order"), "2 1")

    def test_other_first_words(self):
        for row in ("", " ", "  ", "\n", "x", "1", "0", "-", "u", "Order", "ORDER", "orders", "ORDER 1", "order\n",
                    "order\t1", "order1", " order", " order 1", "updown 3 0", "u p 3 0", "ask", "oven", "Back",
                    "back\n", "keeps\tu", "say", "up\t3\t0", "up,3,0", "many?", "shares 1", "ups1", "rings", "1 2",
                    "\u00f6ver", "over\u00a0", "x" * 300):
            self.refuses(NoLine, "order 2 1", row)

    def test_too_few_and_too_many_words(self):
        right = {"N": "1", "P": "?"}
        for form in FORMS:
            words = [right.get(word, word) for word in form.split(" ")]
            self.assertIsNot(refusal_of(self.tell("order 2 1").say, " ".join(words)), NoLine)
            for few in range(1, len(words)):
                self.refuses(NoLine, "order 2 1", " ".join(words[:few]))
            for more in ("1", "?", "-", "0", form, "order", "back"):
                if form != "order":
                    self.refuses(NoLine, "order 2 1", " ".join(words + [more]))
                    self.refuses(NoLine, "order 2 1", " ".join(words + [more, more]))

    def test_a_blank_more_at_each_place(self):
        right = {"N": "1", "P": "?"}
        for form in FORMS:
            row = " ".join(right.get(word, word) for word in form.split(" "))
            for at in range(len(row) + 1):
                with_blank = row[:at] + " " + row[at:]
                if with_blank != "order ":
                    self.refuses(NoLine, "order 2 1", with_blank)
        for row in (" order 2 1", "o rder 2 1", "orde r 2 1"):
            self.refuses(NoLine, row)
        for row in ("order  2 1", "order 2  1", "order 2 1 "):
            self.refuses(NoText, row)

    def test_order_with_nothing_behind_it_and_with_a_blank(self):
        self.answered("2 1", "order 2 1", "order")
        self.refuses(NoText, "order 2 1", "order ")
        self.refuses(NoText, "order 2 1", "order  ")

    def test_words_that_are_no_number(self):
        for word in ("", "-1", "-0", "00", "01", "+1", "1.", "1_0", "x", "u", "?", "-", "1/1", "\u0661", "\u00b2",
                     "\uff11", "1\n", "\t1", FIFTY_ONE, "0" * 50, "0" + FIFTY, "9" * 200, "-" + FIFTY, "None", "1,"):
            for row in ("up {} 0", "up 3 {}", "up {0} {0}", "up 99 {}", "keep - {}", "keep ud {}", "out {}", "ups {}",
                        "share {}"):
                self.refuses(NoLine, "order 2 1", row.format(word))

    def test_numbers_of_fifty_figures_are_so_written(self):
        for row in ("up {} 0", "up 3 {}", "keep - {}", "out {}", "ups {}", "share {}"):
            for number in (FIFTY, "9" * 50, "1" + "0" * 49, str(GREAT)):
                self.refuses(NoNumber, "order 2 1", row.format(number))
            for number in (FIFTY_ONE, "9" * 51, "1" + "0" * 50, str(10 ** 50)):
                self.refuses(NoLine, "order 2 1", row.format(number))

    def test_words_that_are_no_pattern(self):
        for word in ("", "--", "-u", "u-", "U", "x", "1", "0", "u,d", "ud!", "u\n", "\tu", "u" * 40, "?" * 200,
                     "u\u00a0", "\uff1f"):
            for row in ("keep {} 0", "keep {} 99", "keep {} x", "keeps {}", "many {}"):
                self.refuses(NoLine, "order 2 1", row.format(word))

    def test_ahead_of_all_else(self):
        # Each of these would be refused with another class, were it so written.
        for row in ("on 1", "back 1", "back ", "number 0", "twin -", "ring 1", "out 0 0", "out 3 ", "up 0 01", "up 0 x",
                    "up 61 -1", "keep - 01", "keep uu 1 1", "ups 61 ", "ups 0 0", "share 61 61"):
            self.refuses(NoLine, row)
            self.refuses(NoLine, "order 2 1", row)

    def test_rows_of_all_words(self):
        """Each first word with up to three words of many sorts: refused with NoLine where none is known."""
        words = ("", "0", "2", "01", "-1", "-", "u?", "ux", FIFTY, FIFTY_ONE, "order")
        firsts = {form.split(" ")[0] for form in FORMS} | {"", "x", "Order", "0"}
        for first in sorted(firsts):
            for rest in [rest for length in range(4) for rest in product(words, repeat=length)]:
                row = " ".join((first,) + rest)
                told = refusal_of(Desk().say, row)
                self.assertIs(told, refusal_of(told_otherwise, [], row), row)

    def test_two_desks_have_nothing_in_common(self):
        one, other = Desk(), Desk()
        one.say("order 2 1 3")
        self.assertEqual(other.say("order"), "1")
        refused(self, NoDeed, other.say, "back")
        other.say("up 4 2")
        one.say("over")
        self.assertEqual(other.say("back"), "1")
        self.assertEqual(one.say("order"), "2 3 1")
        self.assertEqual([one.say("back"), one.say("back")], ["2 1 3", "1"])
        self.assertEqual(Desk().say("order"), "1")


if __name__ == "__main__":
    unittest.main()

"""Promise 11, commute: whether two edits can change places."""

import random
import unittest

from lines import SMALL_VALUES, some_edit
from lines import answered, last, lines, nested, text_of, with_entries, written_list, written_record

EXAMPLE = '{a: 1, l: ["x", "y", "z"]}'
TWELVE = written_list(range(12))
SIXTY = "[" + with_entries(59) + "]"

MAKE_THE_SAME = [
    (EXAMPLE, "set /a 5", "take /l 0"),
    (EXAMPLE, "set /a 5", "set /l 5"),
    (EXAMPLE, "set /a 5", "set /a 5"),
    (EXAMPLE, "set / 5", "set / 5"),
    (EXAMPLE, "set /a 5", "drop / l"),
    (EXAMPLE, "take /l 0", "take /l 0"),
    (EXAMPLE, "add / 0 b 1", "take /l 0"),
    (EXAMPLE, "rename / a b", "set /l/0 7"),
    (EXAMPLE, "rename / a b", "rename / l m"),
    (EXAMPLE, "rename / a a", "rename / a a"),
    (EXAMPLE, "move /l 0 0", "move /l 2 0"),
    ("[7, 7, 7]", "take / 0", "move / 0 1"),
    ("[]", "put / 0 5", "put / 0 5"),
    ("[[], []]", "put /0 0 5", "put /1 0 5"),
    ("{a: {}, b: {}}", "add /a 0 c 1", "add /b 0 c 1"),
    ("{a: 1, b: 2}", "drop / a", "drop / b"),
    ("{a: 1, b: 2}", "add / 0 c 3", "drop / b"),
    ("[[[[[]]]]]", "put /0/0/0/0 0 1", "put /0/0/0/0 0 1"),
]

LARGER_ON_THE_WAY = [
    (TWELVE, "put / 0 0", "take / 0"),
    ("{l: " + TWELVE + "}", "put /l 0 0", "take /l 0"),
    (written_record(12), "add / 0 g 1", "drop / f0"),
    (SIXTY, "put / 1 0", "set /0 0"),
    (SIXTY, "put / 0 " + with_entries(59), "take / 0"),
    ("[" + with_entries(29) + ", 0]", "set /1 " + with_entries(31), "set /0 0"),
]

MAKE_OTHERS = [
    (EXAMPLE, "take /l 0", "put /l 0 7"),
    (EXAMPLE, "set /a 5", "set /a 6"),
    (EXAMPLE, "set / {}", "set / []"),
    (EXAMPLE, "set / 7", 'set / "7"'),
    ("[1, 2, 3]", "move / 0 1", "take / 0"),
    ("[1, 2, 3]", "move / 0 1", "move / 1 2"),
    ("[]", "put / 0 1", "put / 0 2"),
    ("[1]", "set /0 2", "put / 0 3"),
    ("{}", "add / 0 a 1", "add / 0 b 2"),
    (TWELVE, "put / 0 5", "take / 0"),
]

ONE_ORDER_ALONE = [
    # only the first one before the second one makes a value
    ("{}", "add / 0 a 1", "set /a 2"),
    ("{a: 1}", "rename / a b", "add / 1 a 2"),
    ("{a: 1}", "rename / a b", "drop / b"),
    ("{a: 1}", "set /a []", "put /a 0 1"),
    ("{a: []}", "put /a 0 1", "set /a 2"),
    ("{a: 1, b: 2}", "add / 2 c 3", "drop / a"),
    ("[1]", "put / 0 1", "take / 1"),
    ("[1]", "put / 1 2", "move / 0 1"),
    ("[1, 2]", "take / 1", "take / 0"),
    (TWELVE, "put / 0 0", "take / 12"),
    (nested(6), "set /0/0/0/0/0 7", "set /0/0/0/0 8"),
    # the other order applies as well, but makes no value
    ("[0]", "put / 0 1", "set / " + TWELVE),
    ("[0]", "put / 0 1", "set / " + SIXTY),
    ("{}", "add / 0 a 1", "set / " + written_record(12)),
]

NO_ORDER = [
    (EXAMPLE, "set /b 1", "set /b 1"),
    (EXAMPLE, "set /b 1", "set /c 1"),
    (EXAMPLE, "take /l 3", "set /a 2"),
    (EXAMPLE, "drop / a", "drop / a"),
    (EXAMPLE, "drop / a", "rename / a b"),
    (EXAMPLE, "rename / a b", "rename / a c"),
    (EXAMPLE, "add / 0 b 1", "add / 0 b 1"),
    ("[1]", "take / 0", "take / 0"),
    # both orders apply, but make no value
    (TWELVE, "put / 0 0", "put / 0 0"),
    (TWELVE, "put / 0 0", "set /0 0"),
    (written_record(12), "add / 0 g 1", "add / 0 h 1"),
    (SIXTY, "put / 0 0", "put / 0 0"),
    ("[" + with_entries(58) + "]", "put / 0 0", "put / 0 0"),
    (written_list(range(11)), "put / 0 0", "put / 0 0"),
    # deeper on the way than anything may be
    (nested(6), "put /0/0/0/0/0 0 1", "set /0 5"),
]

NO_EDITS = ["", "x", "set", "set /a", "set /a 01", "set /a 5 ", "set /a 5\n", "take /l -1", "drop / A",
            "set /a " + nested(7), "set /a " + with_entries(61)]


def applying_edit(source, value):
    edit = some_edit(source)
    while last(("value", value), ("try", edit)) == [0]:
        edit = some_edit(source)
    return edit


class Commute(unittest.TestCase):
    def check(self, value, one, other, answer):
        for first, second in ((one, other), (other, one)):
            with self.subTest(value=value, one=first, other=second):
                self.assertEqual(last(("value", value), ("commute", first, second)), [answer])

    def row_makes(self, value, *edits):
        """What the row makes, or None."""
        given = answered(("value", value), ("rows", lines(*edits)), "show")
        return text_of(given[2]) if given[1][0] == 0 else None

    def test_both_orders_make_the_same(self):
        for value, one, other in MAKE_THE_SAME + LARGER_ON_THE_WAY:
            self.check(value, one, other, 1)
            self.assertIsNotNone(self.row_makes(value, one, other))
            self.assertEqual(self.row_makes(value, one, other), self.row_makes(value, other, one))

    def test_larger_on_the_way_than_a_value(self):
        for value, one, other in LARGER_ON_THE_WAY:
            with self.subTest(value=value, one=one):
                self.assertEqual(last(("value", value), ("edit", one)), [-5])

    def test_both_orders_make_values_that_are_not_the_same(self):
        for value, one, other in MAKE_OTHERS:
            self.check(value, one, other, 0)
            made = [self.row_makes(value, one, other), self.row_makes(value, other, one)]
            self.assertNotIn(None, made)
            self.assertNotEqual(made[0], made[1])

    def test_one_order_alone_makes_a_value(self):
        for value, one, other in ONE_ORDER_ALONE:
            self.check(value, one, other, 0)
            self.assertIsNotNone(self.row_makes(value, one, other))
            self.assertIsNone(self.row_makes(value, other, one))

    def test_no_order_makes_a_value(self):
        for value, one, other in NO_ORDER:
            self.check(value, one, other, 0)
            self.assertEqual([self.row_makes(value, one, other), self.row_makes(value, other, one)], [None, None])

    def test_texts_of_no_edits(self):
        for text in NO_EDITS:
            for edit in ("set /a 5", "set /b 5", text):
                with self.subTest(text=text, edit=edit):
                    told = [("value", EXAMPLE), ("commute", text, edit), ("commute", edit, text)]
                    self.assertEqual(answered(*told)[1:], [[-1], [-1]])

    def test_of_a_new_object(self):
        self.assertEqual(last(("commute", "add / 0 a 1", "add / 0 b 1")), [0])
        self.assertEqual(last(("commute", "set / 1", "set / 1")), [1])

    def test_commute_changes_nothing(self):
        told = [("value", "[1]"), ("other", "[1, 2, 3]"), ("edit", "put / 1 2"), ("edit", "put / 2 3"), "undo"]
        given = answered(*told, ("commute", "set /0 5", "set /1 6"), ("commute", "take / 0", "take / 1"),
                         ("commute", "x", "take / 0"), ("commute", "take / 0", "x"), "show", "size", "redo", "show")[5:]
        self.assertEqual(given[:4], [[1], [0], [-1], [-1]])
        self.assertEqual(text_of(given[4]), "[1, 2]")
        self.assertEqual(given[5:7], [[3, 4, 1, 1], [2, 0]])
        self.assertEqual(text_of(given[7]), "[1, 2, 3]")

    def test_many_edits(self):
        source = random.Random(11)
        answers_given = {0: 0, 1: 0}
        for turn in range(1000):
            value = source.choice(SMALL_VALUES[-2:])
            one = applying_edit(source, value)
            other = applying_edit(source, value) if turn % 5 else some_edit(source)
            made = [self.row_makes(value, one, other), self.row_makes(value, other, one)]
            answer = 1 if made[0] is not None and made[0] == made[1] else 0
            self.check(value, one, other, answer)
            answers_given[answer] += 1
        self.assertGreater(min(answers_given.values()), 100)


if __name__ == "__main__":
    unittest.main()

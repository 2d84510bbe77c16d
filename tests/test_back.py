"""Promise 7, back: the edit that turns an edit back."""

import random
import unittest

from lines import SMALL_VALUES, some_edit
from lines import answered, last, lines, nested, shown, text_of, with_entries, written_list, written_record

EXAMPLE = '{a: 1, l: ["x", "y", "z"]}'

BACKS = [
    # value, edit, what turns it back
    (EXAMPLE, "move /l 0 2", "move /l 2 0"),
    (EXAMPLE, "move /l 1 1", "move /l 1 1"),
    (EXAMPLE, "set /a [5]", "set /a 1"),
    (EXAMPLE, "set / 5", "set / " + EXAMPLE),
    (EXAMPLE, "set /l/1 7", 'set /l/1 "y"'),
    ('["\\"\\\\ ~"]', "set /0 7", 'set /0 "\\"\\\\ ~"'),
    (EXAMPLE, "put /l 3 5", "take /l 3"),
    ("[[]]", "put /0 0 5", "take /0 0"),
    (EXAMPLE, "take /l 0", 'put /l 0 "x"'),
    ("[1, [-2, {a: []}], 3]", "take / 1", "put / 1 [-2, {a: []}]"),
    ("{a: 1, b: 2}", "add / 1 c 5", "drop / c"),
    ("{}", "add / 0 abcdefghij 5", "drop / abcdefghij"),
    ("{a: 1, b: [2], c: 3}", "drop / a", "add / 0 a 1"),
    ("{a: 1, b: [2], c: 3}", "drop / b", "add / 1 b [2]"),
    ("{a: 1, b: [2], c: 3}", "drop / c", "add / 2 c 3"),
    ("[{a: {b: {}}}]", "drop /0/a b", "add /0/a 0 b {}"),
    ("{a: 1, b: 2}", "rename / a c", "rename / c a"),
    ("{a: 1, b: 2}", "rename / b b", "rename / b b"),
    ("[[0, {a1: 1}]]", "rename /0/1 a1 b", "rename /0/1 b a1"),
]


class Back(unittest.TestCase):
    def test_what_turns_edits_back(self):
        for value, edit, back in BACKS:
            with self.subTest(value=value, edit=edit):
                told = [("value", value), ("back", edit), "show", "size", ("edit", edit), ("edit", back), "show"]
                given = answered(*told)
                self.assertEqual(text_of(given[1]), back)
                self.assertEqual(text_of(given[2]), value)
                self.assertEqual(given[3], [given[0][0], 1, 0, 0])
                self.assertEqual(text_of(given[6]), value)

    def test_texts_of_no_edits(self):
        for edit in ("", "set", "set /b", "set /b 01", "take /l -1", "move /l 9 9 9", "drop / B", "turn / a", "set /a 1\n"):
            with self.subTest(edit=edit):
                self.assertEqual(last(("value", EXAMPLE), ("back", edit)), [-1])

    def test_edits_that_make_no_value(self):
        twelve = written_list([0] * 12)
        cases = [
            (EXAMPLE, "set /b 1"), (EXAMPLE, "take /l 3"), (EXAMPLE, "move /l 0 3"), (EXAMPLE, "put /l 4 1"),
            (EXAMPLE, "put / 0 1"), (EXAMPLE, "add / 0 a 1"), (EXAMPLE, "add / 3 b 1"), (EXAMPLE, "drop / b"),
            (EXAMPLE, "rename / a l"), (EXAMPLE, "rename / b b"), (EXAMPLE, "drop /l a"),
            (twelve, "put / 0 1"), (written_record(12), "add / 0 g 1"), (nested(6), "put /0/0/0/0/0 0 1"),
            ("[" + with_entries(59) + "]", "put / 0 1"),
        ]
        for value, edit in cases:
            with self.subTest(value=value, edit=edit):
                told = [("value", "0"), ("edit", "set / " + value), ("back", edit), "show", "size"]
                given = answered(*told)
                self.assertEqual(given[2], [-5])
                self.assertEqual(text_of(given[3]), value)
                self.assertEqual(given[4][2:], [1, 0])

    def test_back_is_told_of_the_value_that_is_there(self):
        told = [("value", "[1]"), ("edit", "set /0 2"), ("back", "set /0 3")]
        self.assertEqual(text_of(last(*told)), "set /0 2")


class EditsTogether(unittest.TestCase):
    """What edit, try, back and rows say of one and the same edit agrees."""

    def test_many_edits(self):
        source = random.Random(7)
        value = "{}"
        applied = 0
        for turn in range(5000):
            if turn % 50 == 0:
                value = source.choice(SMALL_VALUES[-2:])
            edit = some_edit(source)
            with self.subTest(value=value, edit=edit):
                given = answered(("value", value), ("try", edit), ("back", edit), ("rows", lines(edit)), "show")
                done = last(("value", value), ("edit", edit))
                if given[1] == [0]:
                    self.assertEqual(given[2:4] + [done], [[-5], [1, 0], [-5]])
                    self.assertEqual(text_of(given[4]), value)
                    continue
                made = text_of(given[1][1:])
                self.assertEqual(given[3], [0, 1])
                self.assertEqual(text_of(given[4]), made)
                self.assertEqual(done, last(("value", made)))
                self.assertEqual(shown(("value", made), ("edit", text_of(given[2]))), value)
                value = made
                applied += 1
        self.assertGreater(applied, 500)


if __name__ == "__main__":
    unittest.main()

"""Promise 8, cost: what an edit costs."""

import unittest

from lines import answered, last, nested, text_of, with_entries, written_list, written_record

COSTS = [
    ("put /l 0 [1, 2]", 4),
    ("set / 5", 2),
    ('set / ""', 2),
    ('set / "a [1, 2] b"', 2),
    ("set / {}", 2),
    ("set / []", 2),
    ("set /a/b/0/1/c -7", 2),
    ("set / [1]", 3),
    ("set / {a: 1}", 3),
    ("set / {a: [1, 2], b: {c: {}}}", 7),
    ("set / " + nested(6), 7),
    ("set / " + written_list([0] * 12), 14),
    ("set / " + written_record(12), 14),
    ("set / " + with_entries(60), 61),
    ("put / 0 1", 2),
    ("put / 1000000000 {a: {b: 1}}", 4),
    ("put /a 0 " + with_entries(60), 61),
    ("take / 0", 1),
    ("take /a/b/c 1000000000", 1),
    ("move / 0 1", 1),
    ("move /a/0 5 5", 1),
    ("add / 0 a 1", 2),
    ("add / 12 abcdefghij [[], []]", 4),
    ("add / 0 a " + with_entries(59), 60),
    ("drop / a", 1),
    ("drop /a/0 abcdefghij", 1),
    ("rename / a b", 1),
    ("rename /0 a a", 1),
]

NO_EDITS = [
    "", " ", "\n", "set", "set /", "set / ", "set /a", "set / 1 ", "set / 1\n", " set / 1", "set  / 1", "set / 01",
    "set / -0", "set / x", "set /A 1", "set /a/ 1", "set /01 1", "set / 1000000001", "set /1000000001 1", "set / [1,2]",
    "set / " + nested(7), "set / " + with_entries(61), "set / " + written_list([0] * 13), "set / " + written_record(13),
    'set / "' + "s" * 31 + '"', "put / 0", "put / -1 1", "put / 1000000001 1", "take /", "take / -1", "take / 0 1",
    "move / 0", "move / 0 1 2", "add / 0 1", "add / a 0 1", "add / 0 abcdefghijk 1", "drop /", "drop / 0", "drop / a b",
    "rename / a", "rename / a b c", "cost / 1", "[1]", "set / 1\nset / 2\n",
]


class Cost(unittest.TestCase):
    def test_what_edits_cost(self):
        for edit, cost in COSTS:
            with self.subTest(edit=edit):
                self.assertEqual(last(("cost", edit)), [cost])

    def test_an_edit_need_not_apply(self):
        for value in ("{}", "[]", "7", '"x"', '{a: 1, l: ["x", "y", "z"]}', nested(6), with_entries(60)):
            for edit, cost in COSTS:
                with self.subTest(value=value, edit=edit):
                    self.assertEqual(last(("value", value), ("cost", edit)), [cost])

    def test_texts_of_no_edits(self):
        for edit in NO_EDITS:
            with self.subTest(edit=edit):
                self.assertEqual(last(("cost", edit)), [-1])

    def test_bytes_that_are_no_signs(self):
        for byte in (0, 10, 31, 127, 128, 255):
            with self.subTest(byte=byte):
                self.assertEqual(last(("cost", [ord(sign) for sign in "set / "] + [34, byte, 34])), [-1])

    def test_cost_changes_nothing(self):
        told = [("value", "[1]"), ("other", "[1, 2, 3]"), ("edit", "put / 1 2"), ("edit", "put / 2 3"), "undo"]
        given = answered(*told, ("cost", "take / 0"), ("cost", "set / 5"), ("cost", "x"), "show", "size", "redo", "show")
        self.assertEqual(given[5:8], [[1], [2], [-1]])
        self.assertEqual(text_of(given[8]), "[1, 2]")
        self.assertEqual(given[9:11], [[3, 4, 1, 1], [2, 0]])
        self.assertEqual(text_of(given[11]), "[1, 2, 3]")


if __name__ == "__main__":
    unittest.main()

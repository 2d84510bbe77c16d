"""Promises 1 and 2, value and other, and which texts are values'; promise 3, show."""

import unittest

from lines import answered, last, nested, shown, text_of, with_entries, written_list, written_record

GOOD = [
    # text, entries, deep
    ('""', 1, 1),
    ('"x"', 1, 1),
    ('"' + "s" * 30 + '"', 1, 1),
    ('"' + '\\"' * 15 + "\\\\" * 15 + '"', 1, 1),
    ('" ~"', 1, 1),
    ('"{[/%:, ]}"', 1, 1),
    ("0", 1, 1),
    ("7", 1, 1),
    ("-1", 1, 1),
    ("10", 1, 1),
    ("1000000000", 1, 1),
    ("999999999", 1, 1),
    ("-1000000000", 1, 1),
    ("{}", 1, 1),
    ("[]", 1, 1),
    ("{a: 1}", 2, 2),
    ("{a: {}}", 2, 2),
    ("{z: 1, a: 2}", 3, 2),
    ("{a123456789: 1}", 2, 2),
    ("{abcdefghij: 1, abcdefghik: 2}", 3, 2),
    ("{a: {a: {a: 1}}}", 4, 4),
    ("[1, 1, 1]", 4, 2),
    ("[[], {}, \"\", 0]", 5, 2),
    ('{a: 1, l: ["x", "y", "z"]}', 6, 3),
    ("[[1], [[2]], 3]", 7, 4),
    (written_list([0] * 12), 13, 2),
    (written_record(12), 13, 2),
    (nested(6), 6, 6),
    ("[[[[[1]]]]]", 6, 6),
    ("{a: [{a: [{a: \"x\"}]}]}", 6, 6),
    (with_entries(59), 59, 3),
    (with_entries(60), 60, 3),
]

BAD = [
    "", " ", "x", "a", "true", "{", "[", "}", "]", '"', "-", "\n",
    # texts in marks
    '"x', 'x"', '"x"x', '"x""', "'x'", '"\\"', '"\\n"', '"\\x"', '"\\', '"a"b"', '"\\\\\\"',
    '"' + "s" * 31 + '"', '"' + "s" * 5000 + '"', '"' + '\\"' * 31 + '"',
    # numbers
    "00", "01", "-0", "-01", "007", "+1", "--1", "- 1", "1-", "1.0", "1e3", "0x1", "1 ", " 1", "1\n", "1 2",
    "1000000001", "-1000000001", "10000000000", "0000000001", "9" * 5000, "-" + "9" * 5000, "1a", "0a",
    # records
    "{ }", "{a}", "{a:}", "{a: }", "{a:1}", "{a : 1}", "{a:  1}", "{ a: 1}", "{a: 1 }", "{a: 1,}", "{a: 1, }",
    "{, a: 1}", "{a: 1,b: 2}", "{a: 1,  b: 2}", "{a: 1 b: 2}", "{a: 1, a: 2}", "{a: 1, b: 2, a: 1}", "{a: 1",
    "{a: 1]", "{a: 1}}", "{: 1}", "{1: 1}", "{1a: 1}", "{A: 1}", "{aB: 1}", "{a_b: 1}", '{"a": 1}',
    "{abcdefghijk: 1}", "{a1234567890: 1}", "{a: b}", "{a: 01}", written_record(13),
    # lists
    "[ ]", "[1,2]", "[1,  2]", "[1 2]", "[1, 2 ]", "[ 1]", "[1,]", "[1, ]", "[, 1]", "[1", "[1}", "[]]", "[[]", "[a]",
    written_list([0] * 13), "[" + written_list([0] * 13) + "]",
    # deep, and many entries
    nested(7), "[[[[[[1]]]]]]", "{a: {a: {a: {a: {a: {a: 1}}}}}}", "[" * 5999, nested(2999), "{a: " * 1400,
    with_entries(61),
]


class ValueAndOther(unittest.TestCase):
    def test_new_object_holds_the_record_without_fields(self):
        self.assertEqual(shown(), "{}")
        self.assertEqual(last("size"), [1, 1, 0, 0])

    def test_texts_of_values(self):
        for text, entries, deep in GOOD:
            with self.subTest(text=text):
                value, other, show, size = answered(("value", text), ("other", text), "show", "size")
                self.assertEqual(value, [entries, deep])
                self.assertEqual(other, [entries, deep])
                self.assertEqual(text_of(show), text)
                self.assertEqual(size, [entries, entries, 0, 0])

    def test_texts_of_no_values(self):
        for text in BAD:
            with self.subTest(text=text):
                told = [("value", "[5]"), ("other", "[1, 2]"), ("edit", "put / 0 4")]
                behind = answered(*told, ("value", text), ("other", text), "show", "size")[3:]
                self.assertEqual(behind[0], [-1])
                self.assertEqual(behind[1], [-1])
                self.assertEqual(text_of(behind[2]), "[4, 5]")
                self.assertEqual(behind[3], [3, 3, 1, 0])

    def test_every_byte_within_marks(self):
        for byte in range(256):
            with self.subTest(byte=byte):
                text = [34, byte, 34]
                good = 32 <= byte <= 126 and byte not in (34, 92)
                self.assertEqual(last(("value", text)), [1, 1] if good else [-1])
                self.assertEqual(last(("other", text)), [1, 1] if good else [-1])
                if good:
                    self.assertEqual(last(("value", text), "show"), [3] + text)

    def test_every_byte_behind_a_backslash(self):
        for byte in range(256):
            with self.subTest(byte=byte):
                text = [34, 92, byte, 34]
                good = byte in (34, 92)
                self.assertEqual(last(("value", text)), [1, 1] if good else [-1])
                if good:
                    self.assertEqual(last(("value", text), "show"), [4] + text)

    def test_every_byte_alone(self):
        for byte in range(256):
            with self.subTest(byte=byte):
                digit = 48 <= byte <= 57
                self.assertEqual(last(("value", [byte])), [1, 1] if digit else [-1])

    def test_every_byte_in_a_name(self):
        for byte in range(256):
            with self.subTest(byte=byte):
                letter = 97 <= byte <= 122
                digit = 48 <= byte <= 57
                first = [123, byte, 58, 32, 49, 125]
                second = [123, 97, byte, 58, 32, 49, 125]
                self.assertEqual(last(("value", first)), [2, 2] if letter else [-1])
                self.assertEqual(last(("value", second)), [2, 2] if letter or digit else [-1])

    def test_value_lets_nothing_be_undone(self):
        told = [("edit", "add / 0 a 1"), ("rows", ""), "size", ("value", "[1]"), "size"]
        self.assertEqual(answered(*told)[2:], [[2, 1, 2, 0], [2, 2], [2, 1, 0, 0]])

    def test_value_leaves_the_other_one(self):
        self.assertEqual(last(("other", "[1, 2]"), ("value", "7"), "size"), [1, 3, 0, 0])

    def test_other_leaves_the_value_and_the_deeds(self):
        told = [("value", "[1]"), ("edit", "put / 1 2"), ("other", "[[[1]]]")]
        self.assertEqual(answered(*told, "size")[2:], [[4, 4], [3, 4, 1, 0]])
        self.assertEqual(shown(*told), "[1, 2]")

    def test_the_last_value_counts(self):
        self.assertEqual(shown(("value", "1"), ("value", "[2]"), ("value", "x")), "[2]")
        self.assertEqual(last(("other", "[2]"), ("other", "1"), ("other", "x"), "size"), [1, 1, 0, 0])

    def test_show_changes_nothing(self):
        told = [("value", "[1]"), ("edit", "put / 1 2"), "show", "show", "size"]
        behind = answered(*told)[2:]
        self.assertEqual(behind[0], behind[1])
        self.assertEqual(text_of(behind[1]), "[1, 2]")
        self.assertEqual(behind[2], [3, 1, 1, 0])


if __name__ == "__main__":
    unittest.main()

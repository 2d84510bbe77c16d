"""Promise 4, edit, and promise 6, try: which texts are edits', when an edit applies, and what it makes."""

import unittest

from lines import answered, last, nested, shown, text_of, with_entries, written_list, written_record

EXAMPLE = '{a: 1, l: ["x", "y", "z"]}'

MAKES = [
    # value, edit, what it makes
    ("{}", "set / 5", "5"),
    ("5", "set / {}", "{}"),
    (EXAMPLE, 'set / "x"', '"x"'),
    (EXAMPLE, "set /a 3", '{a: 3, l: ["x", "y", "z"]}'),
    (EXAMPLE, "set /a 1", EXAMPLE),
    (EXAMPLE, "set /l []", "{a: 1, l: []}"),
    (EXAMPLE, "set /l/0 {b: 2}", '{a: 1, l: [{b: 2}, "y", "z"]}'),
    (EXAMPLE, 'set /l/2 "\\"\\\\"', '{a: 1, l: ["x", "y", "\\"\\\\"]}'),
    ("[[1, 2], {a: [3]}]", "set /1/a/0 -4", "[[1, 2], {a: [-4]}]"),
    ("[[1, 2], {a: [3]}]", "set /0/1 [0]", "[[1, [0]], {a: [3]}]"),
    ("{a1: {b2: 1}}", "set /a1/b2 2", "{a1: {b2: 2}}"),
    ("{abcdefghij: 1}", "set /abcdefghij 2", "{abcdefghij: 2}"),
    ("[[[[[1]]]]]", "set /0/0/0/0/0 2", "[[[[[2]]]]]"),
    ("[]", "put / 0 1", "[1]"),
    ("[1, 2]", "put / 0 0", "[0, 1, 2]"),
    ("[1, 2]", "put / 1 0", "[1, 0, 2]"),
    ("[1, 2]", "put / 2 0", "[1, 2, 0]"),
    (EXAMPLE, 'put /l 1 "w, 1"', '{a: 1, l: ["x", "w, 1", "y", "z"]}'),
    ("[1]", "take / 0", "[]"),
    ("[1, 2, 3]", "take / 0", "[2, 3]"),
    ("[1, 2, 3]", "take / 1", "[1, 3]"),
    ("[1, 2, 3]", "take / 2", "[1, 2]"),
    (EXAMPLE, "take /l 1", '{a: 1, l: ["x", "z"]}'),
    ("[1, 2, 3]", "move / 0 2", "[2, 3, 1]"),
    ("[1, 2, 3]", "move / 2 0", "[3, 1, 2]"),
    ("[1, 2, 3]", "move / 0 1", "[2, 1, 3]"),
    ("[1, 2, 3]", "move / 1 0", "[2, 1, 3]"),
    ("[1, 2, 3, 4]", "move / 1 2", "[1, 3, 2, 4]"),
    ("[1, 2, 3]", "move / 1 1", "[1, 2, 3]"),
    ("{l: [1, 2]}", "move /l 0 1", "{l: [2, 1]}"),
    ("{}", "add / 0 a 1", "{a: 1}"),
    ("{a: 1, b: 2}", "add / 0 c 3", "{c: 3, a: 1, b: 2}"),
    ("{a: 1, b: 2}", "add / 1 c 3", "{a: 1, c: 3, b: 2}"),
    ("{a: 1, b: 2}", "add / 2 c 3", "{a: 1, b: 2, c: 3}"),
    ("[{}]", "add /0 0 abcdefghij {a: []}", "[{abcdefghij: {a: []}}]"),
    ("{a: 1}", "drop / a", "{}"),
    ("{a: 1, b: 2, c: 3}", "drop / a", "{b: 2, c: 3}"),
    ("{a: 1, b: 2, c: 3}", "drop / b", "{a: 1, c: 3}"),
    ("{a: 1, b: 2, c: 3}", "drop / c", "{a: 1, b: 2}"),
    ("[{a: 1}]", "drop /0 a", "[{}]"),
    (EXAMPLE, "rename / a b", '{b: 1, l: ["x", "y", "z"]}'),
    ("{a: 1, b: 2, c: 3}", "rename / b a2", "{a: 1, a2: 2, c: 3}"),
    ("{a: 1, b: 2}", "rename / b b", "{a: 1, b: 2}"),
    ("{a: {b: 1}}", "rename /a b a", "{a: {a: 1}}"),
    # as large as values may be
    (written_list([0] * 11), "put / 11 1", written_list([0] * 11 + [1])),
    (written_record(11), "add / 11 f11 11", written_record(12)),
    ("[" + with_entries(58) + "]", "put / 1 0", "[" + with_entries(58) + ", 0]"),
    ("{}", "set / " + with_entries(60), with_entries(60)),
    ("[[[[[]]]]]", "put /0/0/0/0 0 1", "[[[[[1]]]]]"),
    ("[1]", "set /0 " + nested(5), nested(6)),
    ("{}", "set / " + nested(6), nested(6)),
]

MAKES_NONE = [
    # the path does not lead into the value
    ("{}", "set /a 1"), ("{a: 1}", "set /b 1"), ("{a: 1}", "set /0 1"), ("[1]", "set /a 1"), ("[1]", "set /1 2"),
    ("[]", "set /0 1"), ("[1]", "set /1000000000 2"), ("7", "set /0 1"), ('"a"', "set /a 1"), ('"a"', "set /0 1"),
    ("{a: 1}", "set /a/a 1"), ("{a: [1]}", "set /a/0/0 1"), ("{a: {b: 1}}", "set /b 1"), ("{ab: 1}", "set /a 1"),
    ("[[1]]", "set /0/1 1"), ("[1]", "set " + "/0" * 2000 + " 1"), ("{a: 1}", "set " + "/a" * 2000 + " 1"),
    # not to what is told
    ("{}", "put / 0 1"), ("1", "put / 0 1"), ('"ab"', "put / 0 1"), ("[1]", "put /0 0 1"),
    ("{a: 1}", "take / 0"), ("1", "take / 0"), ('"ab"', "take / 0"), ("{a: 1, b: 2}", "move / 0 1"),
    ('"ab"', "move / 0 1"), ("[]", "add / 0 a 1"), ("1", "add / 0 a 1"), ("[{}]", "add / 0 a 1"),
    ("[1]", "drop / a"), ("1", "drop / a"), ('"a"', "drop / a"), ("[1]", "rename / a b"), ("1", "rename / a a"),
    ("[]", "rename / a a"),
    # places and names that are not there, or are there already
    ("[1, 2]", "put / 3 0"), ("[]", "put / 1 0"), ("[1]", "put / 1000000000 0"),
    ("[]", "take / 0"), ("[1, 2]", "take / 2"), ("[1]", "take / 1000000000"),
    ("[]", "move / 0 0"), ("[1, 2]", "move / 0 2"), ("[1, 2]", "move / 2 0"), ("[1, 2]", "move / 2 2"),
    ("{a: 1}", "add / 2 b 1"), ("{}", "add / 1 b 1"), ("{a: 1}", "add / 0 a 1"), ("{a: 1}", "add / 1 a 2"),
    ("{a: 1, b: 2}", "add / 1000000000 c 2"),
    ("{}", "drop / a"), ("{a: 1}", "drop / b"), ("{a: {b: 1}}", "drop / b"),
    ("{}", "rename / a b"), ("{}", "rename / a a"), ("{a: 1}", "rename / b c"), ("{a: 1}", "rename / b b"),
    ("{a: 1, b: 2}", "rename / a b"), ("{a: 1, b: 2}", "rename / b a"),
    # what comes of it is no value
    (written_list([0] * 12), "put / 12 1"), (written_list([0] * 12), "put / 0 1"),
    ("{l: " + written_list([0] * 12) + "}", "put /l 0 1"),
    (written_record(12), "add / 12 g 1"), ("[" + written_record(12) + "]", "add /0 0 g 1"),
    ("[" + with_entries(58) + "]", "put / 1 [0]"), ("[" + with_entries(59) + "]", "put / 1 0"),
    ("[0]", "set /0 " + with_entries(60)), ("[" + with_entries(30) + "]", "put / 0 " + with_entries(30)),
    (nested(6), "put /0/0/0/0/0 0 1"), ("[[1]]", "set /0/0 " + nested(5)), ("[]", "put / 0 " + nested(6)),
    ("{}", "add / 0 a " + nested(6)),
]

NO_EDITS = [
    "", " ", "\n", "set", "set ", "set /", "set / ", "set /a", "set /a ", "set  /a 1", "set /a  1", " set /a 1",
    "set /a 1 ", "set /a 1\n", "set /a 1 1", "Set /a 1", "SET /a 1", "sett /a 1", "se /a 1", "change /a 1", "set1 /a 1",
    "set\t/a 1", "set,/a 1", "set /a,1", "set/a 1", "set a 1", "set 1", "{}", "5", "set /a /b",
    # paths
    "set // 1", "set //a 1", "set /a/ 1", "set /a//b 1", "set a/ 1", "set /A 1", "set /a_b 1", "set /a.b 1",
    "set /1a 1", "set /00 1", "set /01 1", "set /-1 1", "set /-0 1", "set /+1 1", "set /1000000001 1",
    "set /9999999999 1", "set /" + "1" * 5000 + " 1", "set /abcdefghijk 1", "set /" + "a" * 5000 + " 1",
    "set /a /1", 'set /"a" 1',
    # values
    "set /a x", 'set /a "x', "set /a 01", "set /a -0", "set /a 1000000001", "set /a -1000000001", "set /a {a:1}",
    "set /a {a: 1, a: 1}", "set /a [1,2]", 'set /a "\\n"', 'set /a "' + "s" * 31 + '"',
    "set /a " + nested(7), "set /a " + with_entries(61), "set /a " + written_list([0] * 13),
    "set /a " + written_record(13), "set /a " + "[" * 5000,
    # put, take, move
    "put / 0", "put / 1", "put / 0 ", "put / x 1", "put / -1 1", "put / -0 1", "put / 00 1", "put / 01 1",
    "put / 1000000001 1", "put / 0 1 2", "put / 0 x", "put /l a 1", "put / 0 " + nested(7), 'put / "0" 1',
    "take /", "take / ", "take / a", "take / -1", "take / 00", "take / 1000000001", "take / 0 ", "take / 0 1",
    "take / [0]", "take / 0 0",
    "move / 0", "move / 0 ", "move / 0 -1", "move / -1 0", "move / 0 00", "move / 00 0", "move / 0 1000000001",
    "move / 1000000001 0", "move / 0 0 0", "move / a b", "move / 0  1",
    # add, drop, rename
    "add / 0 a", "add / 0 1", "add / a 0 1", "add / a 1", "add / 0 A 1", "add / 0 abcdefghijk 1", "add / 0 1a 1",
    "add / -1 a 1", "add / 01 a 1", "add / 1000000001 a 1", "add / 0 a x", "add / 0 a: 1", "add / 0 a 1 2",
    "add / 0 a " + nested(7), 'add / 0 "a" 1',
    "drop /", "drop / ", "drop / 0", "drop / A", "drop / abcdefghijk", "drop / a b", "drop / a ", "drop /a",
    "rename / a", "rename / a ", "rename / a 0", "rename / 0 a", "rename / a B", "rename / a abcdefghijk",
    "rename / abcdefghijk a", "rename / a b c", "rename / a b ",
]


def measured(text):
    return last(("value", text))


class EditAndTry(unittest.TestCase):
    def test_what_edits_make(self):
        for value, edit, made in MAKES:
            with self.subTest(value=value, edit=edit):
                before, tried, size, done, show, behind = answered(
                    ("value", value), ("try", edit), "size", ("edit", edit), "show", "size")
                self.assertEqual(tried[0], 1)
                self.assertEqual(text_of(tried[1:]), made)
                self.assertEqual(size, [before[0], 1, 0, 0])
                self.assertEqual(done, measured(made))
                self.assertEqual(text_of(show), made)
                self.assertEqual(behind, [done[0], 1, 1, 0])

    def test_edits_that_make_no_value(self):
        for value, edit in MAKES_NONE:
            with self.subTest(value=value, edit=edit):
                told = [("value", "{}"), ("edit", "set / " + value), ("try", edit), ("edit", edit)]
                behind = answered(*told, "show", "size")[2:]
                self.assertEqual(behind[0], [0])
                self.assertEqual(behind[1], [-5])
                self.assertEqual(text_of(behind[2]), value)
                self.assertEqual(behind[3], [measured(value)[0], 1, 1, 0])

    def test_texts_of_no_edits(self):
        # Many of these would not apply either: that the text is none is looked at first.
        for value in ('{a: 1, l: ["x", "y"]}', "[1, 2]", "{}"):
            for edit in NO_EDITS:
                with self.subTest(value=value, edit=edit):
                    told = [("edit", "set / " + value), ("try", edit), ("edit", edit)]
                    behind = answered(*told, "show", "size")[1:]
                    self.assertEqual(behind[0], [-1])
                    self.assertEqual(behind[1], [-1])
                    self.assertEqual(text_of(behind[2]), value)
                    self.assertEqual(behind[3], [measured(value)[0], 1, 1, 0])

    def test_bytes_in_an_edits_value(self):
        for byte, good in ((31, False), (32, True), (126, True), (127, False), (0, False), (10, False), (255, False)):
            with self.subTest(byte=byte):
                edit = [ord(sign) for sign in "set / "] + [34, byte, 34]
                self.assertEqual(last(("edit", edit)), [1, 1] if good else [-1])
                self.assertEqual(last(("try", edit)), [1, 3, 34, byte, 34] if good else [-1])

    def test_one_edit_behind_another(self):
        told = [("value", EXAMPLE), ("edit", "take /l 0"), ("edit", "add / 0 c [[1]]"), ("edit", "drop / a")]
        self.assertEqual(answered(*told)[1:], [[5, 3], [8, 4], [7, 4]])
        self.assertEqual(shown(*told), '{c: [[1]], l: ["y", "z"]}')
        self.assertEqual(last(*told, "size"), [7, 1, 3, 0])

    def test_the_documents_example(self):
        self.assertEqual(last(("value", EXAMPLE), ("edit", "rename / a b")), [6, 3])

    def test_edit_leaves_the_other_one(self):
        told = [("value", "[1]"), ("other", "[1, 2, 3]"), ("edit", "take / 0"), "size"]
        self.assertEqual(last(*told), [1, 4, 1, 0])

    def test_an_edit_that_alters_nothing_is_a_deed(self):
        self.assertEqual(last(("value", "{a: 1}"), ("edit", "rename / a a"), "size"), [2, 1, 1, 0])


if __name__ == "__main__":
    unittest.main()

"""Promise 5, rows: rows of edits, and what may be on the way from one value to another."""

import unittest

from lines import answered, last, lines, nested, shown, text_of, with_entries, written_list, written_record

EXAMPLE = '{a: 1, l: ["x", "y", "z"]}'


class Rows(unittest.TestCase):
    def check(self, value, edits, answer, made):
        given, show, size = answered(("value", value), ("rows", edits), "show", "size")[1:]
        self.assertEqual(given, answer)
        self.assertEqual(text_of(show), made)
        self.assertEqual(size[2:], [1 if answer[0] == 0 else 0, 0])

    def test_rows_that_make_values(self):
        self.check("[1]", lines("put / 1 2"), [0, 1], "[1, 2]")
        self.check("[]", lines("put / 0 1", "put / 0 2", "move / 0 1"), [0, 3], "[1, 2]")
        self.check("{}", lines("add / 0 a []", "put /a 0 {}", "add /a/0 0 b 1"), [0, 3], "{a: [{b: 1}]}")
        self.check(EXAMPLE, lines("set /a 2", "take /l 0", 'put /l 2 "w"'), [0, 3], '{a: 2, l: ["y", "z", "w"]}')
        self.check("{a: 1, b: 2}", lines("rename / a c", "rename / b a", "rename / c b"), [0, 3], "{b: 1, a: 2}")

    def test_a_row_without_lines(self):
        self.check(EXAMPLE, "", [0, 0], EXAMPLE)

    def test_the_documents_example(self):
        self.check(EXAMPLE, lines("set /a 3", "set /b 1"), [1, 1], EXAMPLE)

    def test_how_many_apply(self):
        self.check("[1]", lines("take / 1"), [1, 0], "[1]")
        self.check("[1]", lines("take / 1", "take / 0"), [1, 0], "[1]")
        self.check("[1]", lines("take / 0", "take / 0", "put / 0 1"), [1, 1], "[1]")
        self.check("[1]", lines("put / 0 1", "put / 0 1", "put / 4 1", "put / 0 1"), [1, 2], "[1]")

    def test_all_apply_but_make_no_value(self):
        twelve = written_list([0] * 12)
        self.check(twelve, lines("put / 0 1"), [1, 1], twelve)
        self.check(twelve, lines("put / 0 1", "put / 13 2"), [1, 2], twelve)
        fields = written_record(12)
        self.check(fields, lines("add / 0 g 1"), [1, 1], fields)
        self.check("[]", lines("put / 0 " + with_entries(59), "put / 0 1"), [1, 2], "[]")

    def test_sixty_entries_at_the_end(self):
        made = "[" + with_entries(58) + ", 1]"
        self.check("[]", lines("put / 0 1", "put / 0 " + with_entries(58)), [0, 2], made)

    def test_24_items_on_the_way(self):
        twelve = written_list([0] * 12)
        more = ["put / 12 1"] * 12
        self.check(twelve, lines(*more), [1, 12], twelve)
        self.check(twelve, lines(*more, *["take / 0"] * 12), [0, 24], written_list([1] * 12))
        self.check(twelve, lines(*more, *["take / 0"] * 11), [1, 23], twelve)
        self.check(twelve, lines(*more, "put / 0 1", "set / 0"), [1, 12], twelve)
        self.check(twelve, lines(*more, "move / 23 0", "set / 0"), [0, 14], "0")

    def test_24_items_in_an_inner_list(self):
        value = "{a: {l: " + written_list([0] * 12) + "}}"
        more = ["put /a/l 0 1"] * 12
        self.check(value, lines(*more, "set /a 5"), [0, 13], "{a: 5}")
        self.check(value, lines(*more, "put /a/l 0 1", "set /a 5"), [1, 12], value)

    def test_24_fields_on_the_way(self):
        value = written_record(12)
        more = ["add / %d g%d 1" % (12 + place, place) for place in range(12)]
        fewer = ["drop / f%d" % place for place in range(12)]
        made = "{" + ", ".join("g%d: 1" % place for place in range(12)) + "}"
        self.check(value, lines(*more, *fewer), [0, 24], made)
        self.check(value, lines(*more, *fewer[1:]), [1, 23], value)
        self.check(value, lines(*more, "add / 0 h 1", "set / 0"), [1, 12], value)
        self.check(value, lines(*more, "rename / f0 h", "set / 0"), [0, 14], "0")

    def test_120_entries_on_the_way(self):
        more = ["put / 0 " + with_entries(59), "put / 0 " + with_entries(60)]
        self.check("[]", lines(*more), [1, 2], "[]")
        self.check("[]", lines(*more, "take / 0"), [0, 3], "[" + with_entries(59) + "]")
        self.check("[]", lines(*more, "put / 0 1", "take / 1"), [1, 2], "[]")
        self.check("[]", lines(*more, "set /0 0", "put / 0 1", "take / 0", "take / 0"), [0, 6],
                   "[" + with_entries(59) + "]")

    def test_6_deep_on_the_way_too(self):
        self.check(nested(6), lines("put /0/0/0/0/0 0 1", "take / 0"), [1, 0], nested(6))
        self.check("[]", lines("put / 0 " + nested(5), "put /0/0/0/0/0 0 1", "take / 0"), [1, 1], "[]")
        self.check("[]", lines("put / 0 " + nested(5), "take / 0"), [0, 2], "[]")

    def test_texts_that_are_no_lines_of_edits(self):
        texts = ["\n", "set /a 3", "set /a 3\nset /a 4", "set /a 3\n\n", "\nset /a 3\n", "set /a 3\n\nset /a 4\n",
                 "set /a 3\r\n", "set /a 3 \n", " set /a 3\n", " ", "set /a 3\n ", "set /a x\n", "set /b 1\nset\n",
                 "set /b 1\nset /a 3", "set /a 01\n", "set /a " + nested(7) + "\n", 'set /a "\n"\n', "set /a 3\0"]
        for text in texts:
            with self.subTest(text=text):
                told = [("value", "{a: 1}"), ("edit", "set /a 2"), ("rows", text), "show", "size"]
                given, show, size = answered(*told)[2:]
                self.assertEqual(given, [-1])
                self.assertEqual(text_of(show), "{a: 2}")
                self.assertEqual(size, [2, 1, 1, 0])

    def test_a_row_is_one_deed(self):
        told = [("value", "[]"), ("rows", lines("put / 0 1", "put / 0 2")), "size", ("rows", ""), "size",
                ("rows", lines("take / 5")), "size"]
        given = answered(*told)
        self.assertEqual([given[2], given[4], given[6]], [[3, 1, 1, 0], [3, 1, 2, 0], [3, 1, 2, 0]])

    def test_a_row_goes_on_from_the_value_that_is_there(self):
        told = [("rows", lines("set / [1]")), ("rows", lines("put / 1 2")), ("edit", "put / 2 3")]
        self.assertEqual(shown(*told), "[1, 2, 3]")

    def test_as_many_lines_as_a_text_holds(self):
        row = lines(*["set / %d" % (place % 10) for place in range(750)])
        self.assertEqual(len(row), 6000)
        self.assertEqual(last(("rows", row)), [0, 750])
        self.assertEqual(shown(("rows", row)), "9")


if __name__ == "__main__":
    unittest.main()

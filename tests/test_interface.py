"""Promise 14, size, and the interface: how calls are handed in and answers given back."""

import contextlib
import io
import unittest

from lines import answered, as_bytes, calls_of, last, lines
from valueedits.desk import answers

EVERY_CALL = [
    ("value", '{a: 1, l: ["x", "y", "z"]}'), ("other", "[1]"), "show", ("edit", "take /l 0"), ("rows", lines("set /a 3")),
    ("rows", lines("set /b 3")), ("try", "set / 1"), ("try", "set /b 1"), ("back", "drop / a"), "size",
    ("value", "x"), ("other", "x"), ("edit", "x"), ("edit", "drop / b"), ("rows", "x"), ("try", "x"), ("back", "x"),
    ("back", "drop / b"), "size", ("cost", "add / 0 c [1]"), "diff", ("commute", "set /a 1", "take /l 0"), "undo", "meet",
    "redo", "undo", "redo", "undo", "undo", ("cost", "x"), ("commute", "x", "drop / a"), ("commute", "drop / a", "x"),
    "undo", "diff", "size", "redo", "redo", "redo", "show", "size",
]


class Size(unittest.TestCase):
    def test_entries_of_both(self):
        self.assertEqual(last("size"), [1, 1, 0, 0])
        self.assertEqual(last(("value", "[1, [2]]"), "size"), [4, 1, 0, 0])
        self.assertEqual(last(("other", "[1, [2]]"), "size"), [1, 4, 0, 0])
        self.assertEqual(last(("value", "{a: 1}"), ("other", "[1, {a: 2}]"), "size"), [2, 4, 0, 0])

    def test_only_deeds_can_be_undone(self):
        told = [("edit", "add / 0 a 1"), ("rows", lines("add / 1 b 2")), ("rows", ""), ("other", "[1]"), "show",
                ("try", "drop / a"), ("back", "drop / a"), ("edit", "x"), ("edit", "drop / c"), ("rows", "x"),
                ("rows", lines("drop / c")), ("value", "x"), ("other", "x"), "size", "size"]
        given = answered(*told)
        self.assertEqual(given[-2:], [[3, 2, 3, 0], [3, 2, 3, 0]])

    def test_deeds_that_can_be_undone_and_done_again(self):
        told = [("value", "[1]"), ("other", "[1, 2]"), ("edit", "put / 0 0"), "meet", ("rows", ""), "size", "undo", "size",
                "undo", "size", "undo", "size", "redo", "size", ("edit", "set / 7"), "size", ("value", "[[1]]"), "size"]
        self.assertEqual(answered(*told)[5::2], [[3, 3, 3, 0], [3, 3, 2, 1], [3, 3, 1, 2], [2, 3, 0, 3], [3, 3, 1, 2],
                                                 [1, 3, 2, 0], [3, 3, 0, 0]])

    def test_sixty_calls(self):
        self.assertEqual(last(*[("edit", "set / 1")] * 59, "size"), [1, 1, 59, 0])


class Interface(unittest.TestCase):
    def test_the_form_of_calls_and_answers(self):
        self.assertEqual(answers([2]), [3, 2, 123, 125])
        self.assertEqual(answers([0, 1, 55]), [2, 1, 1])
        self.assertEqual(answers([1, 1, 55]), [2, 1, 1])
        self.assertEqual(answers([0, 0]), [1, -1])
        self.assertEqual(answers([1, 0]), [1, -1])
        self.assertEqual(answers([3, 0]), [1, -1])
        self.assertEqual(answers([4, 0]), [2, 0, 0])
        self.assertEqual(answers([5, 0]), [1, -1])
        self.assertEqual(answers([6, 0]), [1, -1])
        self.assertEqual(answers([7, 0]), [1, -1])
        self.assertEqual(answers([8]), [2, 0, 0])
        self.assertEqual(answers([9]), [2, 1, 0])
        self.assertEqual(answers([10, 0, 0]), [1, -1])
        self.assertEqual(answers([11]), [1, -9])
        self.assertEqual(answers([12]), [1, -9])
        self.assertEqual(answers([13]), [4, 1, 1, 0, 0])
        set_seven = as_bytes("set / 7")
        self.assertEqual(answers([5, 7] + set_seven), [3, 1, 1, 55])
        self.assertEqual(answers([5, 8] + as_bytes("set /a 7")), [1, 0])
        self.assertEqual(answers([6, 7] + set_seven), [9, 8] + as_bytes("set / {}"))
        self.assertEqual(answers([3, 7] + set_seven + [2, 13]), [2, 1, 1, 2, 1, 55, 4, 1, 1, 1, 0])
        self.assertEqual(answers([4, 8] + set_seven + [10, 2]), [2, 0, 1, 2, 1, 55])
        self.assertEqual(answers([4, 16] + set_seven + [10] + as_bytes("drop / a")), [1, -1])
        self.assertEqual(answers([3, 8] + as_bytes("drop / a")), [1, -5])
        self.assertEqual(answers([6, 8] + as_bytes("drop / a")), [1, -5])

    def test_the_form_of_the_later_calls_and_answers(self):
        set_seven = as_bytes("set / 7")
        self.assertEqual(answers([7, 7] + set_seven), [1, 2])
        self.assertEqual(answers([1, 1, 55, 8]), [2, 1, 1, 10, 2, 1, 7] + set_seven)
        self.assertEqual(answers([0, 6] + as_bytes("[1, 2]") + [1, 2] + as_bytes("[]") + [8])[6:],
                         [20, 2, 2, 8] + as_bytes("take / 0") + [8] + as_bytes("take / 0"))
        self.assertEqual(answers([1, 1, 55, 9, 11, 12]), [2, 1, 1, 2, 1, 1, 2, 0, 1, 2, 1, 0])
        self.assertEqual(answers([10, 7] + set_seven + [7] + set_seven), [1, 1])
        self.assertEqual(answers([10, 7] + set_seven + [8] + as_bytes("drop / a") + [13]), [1, 0, 4, 1, 1, 0, 0])
        self.assertEqual(answers([10, 7] + set_seven + [0, 13]), [1, -1, 4, 1, 1, 0, 0])
        self.assertEqual(answers([10, 0, 7] + set_seven + [13]), [1, -1, 4, 1, 1, 0, 0])

    def test_a_byte_of_a_text_is_no_call(self):
        self.assertEqual(answers([0, 3, 2, 2, 2, 13]), [1, -1, 4, 1, 1, 0, 0])

    def test_what_is_handed_in_is_not_changed(self):
        calls = calls_of(*EVERY_CALL)
        before = list(calls)
        answers(calls)
        self.assertEqual(calls, before)

    def test_what_is_handed_in_may_not_be_changed_for_a_while_either(self):
        class Fixed(list):
            def refuse(self, *given, **named):
                raise AssertionError("the list was changed")

            append = extend = insert = pop = remove = clear = sort = reverse = refuse
            __setitem__ = __delitem__ = __iadd__ = __imul__ = refuse

        calls = calls_of(*EVERY_CALL)
        self.assertEqual(answers(Fixed(calls)), answers(calls))

    def test_nothing_is_kept_from_one_time_to_the_next(self):
        calls = calls_of(*EVERY_CALL)
        first = answers(calls)
        kept = list(first)
        self.assertEqual(answers(calls), kept)
        first.clear()
        self.assertEqual(answers(calls), kept)
        self.assertEqual(answers([2, 13]), [3, 2, 123, 125, 4, 1, 1, 0, 0])

    def test_a_list_of_whole_numbers_is_given_back(self):
        given = answers(calls_of(*EVERY_CALL))
        self.assertIs(type(given), list)
        self.assertEqual({type(number) for number in given}, {int})

    def test_nothing_is_printed(self):
        printed = io.StringIO()
        with contextlib.redirect_stdout(printed), contextlib.redirect_stderr(printed):
            answers(calls_of(*EVERY_CALL))
        self.assertEqual(printed.getvalue(), "")

    def test_every_call_of_the_line(self):
        given = answered(*EVERY_CALL)
        self.assertEqual([given[place] for place in (0, 1, 3, 4, 5, 7, 9)],
                         [[6, 3], [2, 2], [5, 3], [0, 1], [1, 0], [0], [5, 2, 2, 0]])
        self.assertEqual(given[10:20], [[-1], [-1], [-1], [-5], [-1], [-1], [-1], [-5], [5, 2, 2, 0], [3]])
        self.assertEqual(given[20], [3, 1, 9] + as_bytes("set / [1]"))
        self.assertEqual(given[21:33], [[1], [1, 1], [1, 1], [-9], [1, 1], [2, 0], [1, 1], [0, 2], [-1], [-1], [-1], [-9]])
        self.assertEqual(given[33], [3, 1, 9] + as_bytes("set / [1]"))
        self.assertEqual(given[34:], [[6, 2, 0, 2], [1, 1], [2, 0], [-9], [3] + as_bytes("[1]"), [2, 2, 2, 0]])

    def test_long_texts_nested_deep(self):
        for text in ("[" * 6000, "{a: " * 1500, '"' + "\\" * 5999, "-" * 6000, "9" * 6000, "a" * 6000, "/" * 6000):
            with self.subTest(text=text[:5]):
                calls = [("value", text), ("other", text), ("edit", text), ("rows", text)]
                self.assertEqual(answered(*calls), [[-1]] * 4)
                self.assertEqual(answered(("try", text), ("back", text), ("cost", text)), [[-1]] * 3)
                self.assertEqual(answered(("commute", text, "set / 1"), ("commute", "set / 1", text)), [[-1]] * 2)
        path = "set " + "/0" * 2997 + " 1"
        self.assertEqual(answered(("edit", path), ("try", path), ("back", path)), [[-5], [0], [-5]])
        self.assertEqual(answered(("cost", path), ("commute", path, "set / 1")), [[2], [0]])


if __name__ == "__main__":
    unittest.main()

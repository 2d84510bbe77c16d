"""Promise 12, undo, and promise 13, redo: deeds undone and done again; and the document's whole example."""

import random
import unittest

from lines import SMALL_VALUES, some_edit
from lines import answered, last, lines, shown, text_of, texts_of

EXAMPLE = '{a: 1, l: ["x", "y", "z"]}'
THREE_DEEDS = [("value", "[]"), ("edit", "put / 0 1"), ("rows", lines("put / 1 2", "put / 2 3")), ("edit", "take / 0")]
VALUES_BETWEEN = ["[]", "[1]", "[1, 2, 3]", "[2, 3]"]


class Undo(unittest.TestCase):
    def test_nothing_can_be_undone_or_done_again(self):
        self.assertEqual(answered("undo", "redo", "undo", "show", "size"),
                         [[-9], [-9], [-9], [2, 123, 125], [1, 1, 0, 0]])
        self.assertEqual(answered(("value", "[1]"), "undo", "redo", ("other", "[2]"), "undo", "redo"),
                         [[2, 2], [-9], [-9], [2, 2], [-9], [-9]])

    def test_to_the_beginning_and_to_the_end(self):
        told = ["undo", "show"] * 3 + ["undo", "show"] + ["redo", "show"] * 3 + ["redo", "show", "size"]
        given = answered(*THREE_DEEDS, *told)[len(THREE_DEEDS):]
        counts = [[2, 1], [1, 2], [0, 3], [-9], [1, 2], [2, 1], [3, 0], [-9]]
        self.assertEqual(given[0:16:2], counts)
        values = [VALUES_BETWEEN[place] for place in (2, 1, 0, 0, 1, 2, 3, 3)]
        self.assertEqual([text_of(answer) for answer in given[1:16:2]], values)
        self.assertEqual(given[16], [3, 1, 3, 0])

    def test_to_and_fro(self):
        told = ["undo", "redo", "undo", "undo", "redo", "undo", "redo", "redo"]
        given = answered(*THREE_DEEDS, *told, "show")[len(THREE_DEEDS):]
        self.assertEqual(given[:8], [[2, 1], [3, 0], [2, 1], [1, 2], [2, 1], [1, 2], [2, 1], [3, 0]])
        self.assertEqual(text_of(given[8]), "[2, 3]")

    def test_a_row_of_no_lines(self):
        told = [("value", "[1]"), ("edit", "put / 0 0"), ("rows", ""), "undo", "show", "undo", "show", "redo", "redo", "show"]
        given = answered(*told)
        self.assertEqual([given[place] for place in (3, 5, 7, 8)], [[1, 1], [0, 2], [1, 1], [2, 0]])
        self.assertEqual([text_of(given[place]) for place in (4, 6, 9)], ["[0, 1]", "[1]", "[0, 1]"])

    def test_a_row_is_undone_as_one(self):
        told = [("value", "[]"), ("rows", lines("put / 0 1", "put / 0 2", "put / 0 3")), "undo", "show", "redo", "show"]
        given = answered(*told)
        self.assertEqual([given[2], given[4]], [[0, 1], [1, 0]])
        self.assertEqual([text_of(given[3]), text_of(given[5])], ["[]", "[3, 2, 1]"])

    def test_meet_among_other_deeds(self):
        told = [("value", "[1]"), ("other", "[2, 3]"), ("edit", "set /0 5"), "meet", ("edit", "take / 0"), "undo", "undo",
                "show", "redo", "show", "redo", "show"]
        given = answered(*told)
        self.assertEqual([given[place] for place in (3, 5, 6, 8, 10)], [[1, 2], [2, 1], [1, 2], [2, 1], [3, 0]])
        self.assertEqual([text_of(given[place]) for place in (7, 9, 11)], ["[5]", "[2, 3]", "[3]"])

    def test_every_kind_of_edit(self):
        value = "{a: 1, l: [1, 2, 3]}"
        for edit in ("set / 5", "set /a [1]", "put /l 1 9", "take /l 2", "move /l 0 2", "add / 1 b {}", "drop / a",
                     "rename / l m", "rename / a a"):
            with self.subTest(edit=edit):
                made = shown(("value", value), ("edit", edit))
                given = answered(("value", value), ("edit", edit), "undo", "show", "size", "redo", "show", "size")
                self.assertEqual([given[2], given[5]], [[0, 1], [1, 0]])
                self.assertEqual([text_of(given[3]), text_of(given[6])], [value, made])
                self.assertEqual([given[4], given[7]], [[6, 1, 0, 1], [given[1][0], 1, 1, 0]])

    def test_a_new_deed_leaves_nothing_to_be_done_again(self):
        for deed in (("edit", "put / 0 7"), ("rows", lines("put / 0 7")), ("rows", ""), "meet"):
            with self.subTest(deed=deed):
                given = answered(*THREE_DEEDS, ("other", "[8]"), "undo", "undo", deed, "size", "redo", "undo", "show",
                                 "undo", "show")[len(THREE_DEEDS) + 1:]
                self.assertEqual(given[:2], [[2, 1], [1, 2]])
                self.assertEqual(given[3][2:], [2, 0])
                self.assertEqual(given[4:6], [[-9], [1, 1]])
                self.assertEqual(text_of(given[6]), "[1]")
                self.assertEqual(given[7], [0, 2])
                self.assertEqual(text_of(given[8]), "[]")

    def test_value_leaves_nothing_to_be_undone_or_done_again(self):
        for value in ("[5]", "[1, 2, 3]", "[]"):
            with self.subTest(value=value):
                told = [*THREE_DEEDS, "undo", ("value", value), "undo", "redo", "size", "show"]
                given = answered(*told)[-4:]
                self.assertEqual(given[:2], [[-9], [-9]])
                self.assertEqual(given[2][2:], [0, 0])
                self.assertEqual(text_of(given[3]), value)

    def test_what_is_no_deed_leaves_both(self):
        calls = [("other", "[5, 6]"), "show", ("try", "set / 1"), ("back", "set / 1"), ("cost", "set / 1"), "diff",
                 ("commute", "set / 1", "set / 1"), "size", ("value", "x"), ("other", "x"), ("edit", "x"),
                 ("edit", "take / 9"), ("rows", "x"), ("rows", lines("take / 0", "take / 9")), ("try", "x"),
                 ("try", "take / 9"), ("back", "x"), ("back", "take / 9"), ("cost", "x"), ("commute", "x", "x"),
                 ("rows", lines(*["put / 0 1"] * 10))]
        for call in calls:
            with self.subTest(call=call):
                given = answered(*THREE_DEEDS, "undo", call, "size", "show", "redo", "show", "undo", "undo", "show")
                given = given[len(THREE_DEEDS) + 2:]
                self.assertEqual([given[0][0], given[0][2:]], [4, [2, 1]])
                self.assertEqual([given[2], given[4], given[5]], [[3, 0], [2, 1], [1, 2]])
                self.assertEqual([text_of(given[place]) for place in (1, 3, 6)], ["[1, 2, 3]", "[2, 3]", "[1]"])

    def test_a_refused_undo_or_redo_changes_nothing(self):
        given = answered(*THREE_DEEDS, "redo", "size", "show", "undo", "undo", "undo", "undo", "size", "show", "redo")[4:]
        self.assertEqual(given[:2], [[-9], [3, 1, 3, 0]])
        self.assertEqual(text_of(given[2]), "[2, 3]")
        self.assertEqual(given[6:8], [[-9], [1, 1, 0, 3]])
        self.assertEqual(text_of(given[8]), "[]")
        self.assertEqual(given[9], [1, 2])

    def test_undo_behind_a_refusal(self):
        self.assertEqual(last(("edit", "set / 1"), ("edit", "x"), "undo"), [0, 1])

    def test_undo_leaves_the_other_one(self):
        told = [("value", "[1]"), ("other", "[2]"), "meet", ("other", "[3, 4, 5]"), "undo", "size", "redo", "size", "diff"]
        given = answered(*told)
        self.assertEqual([given[5], given[7]], [[2, 4, 0, 1], [2, 4, 1, 0]])
        self.assertEqual(given[8][0], 5)

    def test_as_many_as_a_line_holds(self):
        given = answered(*[("edit", "set / %d" % turn) for turn in range(30)], *["undo"] * 29, "show")
        self.assertEqual(given[30:59], [[29 - turn, 1 + turn] for turn in range(29)])
        self.assertEqual(text_of(given[59]), "0")

    def test_many_lines(self):
        """Lines of random deeds, beside a list of values and a place in it."""
        source = random.Random(13)
        for turn in range(150):
            told = [("value", "[[3], {a: 4}]"), ("other", source.choice(SMALL_VALUES))]
            values = ["[[3], {a: 4}]"]
            place = 0
            for step in range(source.randrange(30)):
                word = source.choice(["edit", "rows", "meet", "undo", "undo", "redo", "redo"])
                call = (word, some_edit(source)) if word == "edit" else word
                call = (word, lines(some_edit(source), some_edit(source))) if word == "rows" else call
                told.append(call)
                given = answered(*told)[-1]
                before = values[place]
                if word == "undo":
                    place = max(place - 1, 0)
                elif word == "redo":
                    place = min(place + 1, len(values) - 1)
                else:
                    made = text_of(answered(("value", before), told[1], call, "show")[-1])
                    done = given != [-5] if word == "edit" else word == "meet" or given[0] == 0
                    values = values[:place + 1] + [made] if done else values
                    place = place + 1 if done else place
                behind = answered(*told, "show", "size")[-2:]
                self.assertEqual(text_of(behind[0]), values[place])
                self.assertEqual(behind[1][2:], [place, len(values) - 1 - place])


class WholeExample(unittest.TestCase):
    def test_the_documents_example(self):
        given = answered(
            ("value", EXAMPLE), ("other", '{a: 2, l: ["y", "z", "w"]}'), "diff", ("back", "move /l 0 2"),
            ("commute", "set /a 5", "take /l 0"), ("commute", "take /l 0", "put /l 0 7"),
            ("rows", lines("set /a 3", "set /b 1")), "meet", "undo", ("edit", "rename / a b"), ("cost", "put /l 0 [1, 2]"),
            "show", "size")
        self.assertEqual(given[:2], [[6, 3], [6, 3]])
        self.assertEqual(given[2][0], 5)
        self.assertEqual(texts_of(given[2][1:]), ["set /a 2", "take /l 0", 'put /l 2 "w"'])
        self.assertEqual(text_of(given[3]), "move /l 2 0")
        self.assertEqual(given[4:11], [[1], [0], [1, 1], [1, 3], [0, 1], [6, 3], [4]])
        self.assertEqual(text_of(given[11]), '{b: 1, l: ["x", "y", "z"]}')
        self.assertEqual(given[12], [6, 6, 1, 0])


if __name__ == "__main__":
    unittest.main()

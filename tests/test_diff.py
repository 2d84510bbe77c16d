"""Promise 9, diff, and promise 10, meet: the least row from one value to another."""

import random
import unittest

from lines import answered, last, lines, nested, shown, text_of, texts_of, with_entries, written_list, written_record

EXAMPLE = '{a: 1, l: ["x", "y", "z"]}'
EXAMPLE_GOAL = '{a: 2, l: ["y", "z", "w"]}'

ROWS = [
    # the value, the other one, what the least row costs, its edits
    (EXAMPLE, EXAMPLE_GOAL, 5, ["set /a 2", "take /l 0", 'put /l 2 "w"']),
    # the same
    ("{}", "{}", 0, []),
    ("[]", "[]", 0, []),
    ("7", "7", 0, []),
    ('""', '""', 0, []),
    (EXAMPLE, EXAMPLE, 0, []),
    (with_entries(60), with_entries(60), 0, []),
    # of other kinds, or without values within
    ('"x"', "7", 2, ["set / 7"]),
    ("7", '"7"', 2, ['set / "7"']),
    ('"x"', '"y"', 2, ['set / "y"']),
    ('"x"', '"\\"\\\\ ~"', 2, ['set / "\\"\\\\ ~"']),
    ("7", "-7", 2, ["set / -7"]),
    ("{}", "[]", 2, ["set / []"]),
    ("[]", "{}", 2, ["set / {}"]),
    ("{a: 1}", "[1]", 3, ["set / [1]"]),
    ("[1]", "{a: 1}", 3, ["set / {a: 1}"]),
    ("[1]", "1", 2, ["set / 1"]),
    ("{a: 1}", '"a"', 2, ['set / "a"']),
    ("1", "[1, [2]]", 5, ["set / [1, [2]]"]),
    # records of the same names in another order, and of other names
    ("{a: 1, b: 2}", "{b: 2, a: 1}", 4, ["set / {b: 2, a: 1}"]),
    ("{a: 1, b: 2}", "{b: 1, a: 2}", 4, ["set / {b: 1, a: 2}"]),
    ("{a: 1, b: 2}", "{a: 1, c: 2}", 4, ["set / {a: 1, c: 2}"]),
    ("{a: 1}", "{a: 1, b: 2}", 4, ["set / {a: 1, b: 2}"]),
    ("{a: 1, b: 2}", "{a: 1}", 3, ["set / {a: 1}"]),
    ("{}", "{a: 1}", 3, ["set / {a: 1}"]),
    ("{a: 1}", "{}", 2, ["set / {}"]),
    ("{a: {b: 1, c: 2}, d: 3}", "{a: {c: 2, b: 1}, d: 3}", 4, ["set /a {c: 2, b: 1}"]),
    # records of the same names in the same order
    ("{a: 1}", "{a: 2}", 2, ["set /a 2"]),
    ("{b: 1, a: 2, c: 3}", "{b: 4, a: 2, c: 5}", 4, ["set /b 4", "set /c 5"]),
    ("{a: {b: {c: 1}}}", "{a: {b: {c: 2}}}", 2, ["set /a/b/c 2"]),
    ("{a: 1, b: 2}", "{a: [], b: {}}", 4, ["set /a []", "set /b {}"]),
    # a row within that costs as much as to set the second, and one more
    ("{a: 1, b: 2}", "{a: 3, b: 4}", 4, ["set /a 3", "set /b 4"]),
    ("{a: 1, b: 2, c: 3}", "{a: 4, b: 5, c: 6}", 5, ["set / {a: 4, b: 5, c: 6}"]),
    ("{a: 1, b: 2, c: 3, d: 0}", "{a: 4, b: 5, c: 6, d: 0}", 6, ["set /a 4", "set /b 5", "set /c 6"]),
    ("[1, 2]", "[3, 4]", 4, ["set /0 3", "set /1 4"]),
    ("[1, 2, 3]", "[4, 5, 6]", 5, ["set / [4, 5, 6]"]),
    ("[1, 2]", "[]", 2, ["take / 0", "take / 0"]),
    ("[1, 2, 3]", "[]", 2, ["set / []"]),
    ("[]", "[1]", 2, ["put / 0 1"]),
    ("[]", "[1, 2]", 4, ["put / 0 1", "put / 1 2"]),
    ("[]", "[1, 2, 3]", 5, ["set / [1, 2, 3]"]),
    ("[1, 2, 3, 4]", "[4]", 3, ["take / 0", "take / 0", "take / 0"]),
    ("[1, 2, 3, 4, 5]", "[5]", 3, ["set / [5]"]),
    ("{l: [1, 2, 3], a: 1}", "{l: [4, 5, 6], a: 1}", 5, ["set /l [4, 5, 6]"]),
    ("{l: [1, 2, 3]}", "{l: [4, 5, 6]}", 5, ["set /l [4, 5, 6]"]),
    ("[[1, 2, 3], [4, 5, 6], 0]", "[[1, 2, 0], [7, 8, 9], 0]", 7, ["set /0/2 0", "set /1 [7, 8, 9]"]),
    # where ways cost the same: keeping before taking out, taking out before putting in
    ("[1, 1]", "[1]", 1, ["take / 1"]),
    ("[1, 1, 1]", "[1]", 2, ["take / 1", "take / 1"]),
    ("[1]", "[1, 1]", 2, ["put / 1 1"]),
    ("[1]", "[1, 1, 1]", 4, ["put / 1 1", "put / 2 1"]),
    ("[1, 2]", "[2, 1]", 3, ["take / 0", "put / 1 1"]),
    ("[1, 2, 3]", "[2, 3, 1]", 3, ["take / 0", "put / 2 1"]),
    ("[1, 2, 3]", "[3, 1, 2]", 3, ["put / 0 3", "take / 3"]),
    ("[1, 2]", "[3]", 3, ["set /0 3", "take / 1"]),
    ("[1]", "[2, 3]", 4, ["set /0 2", "put / 1 3"]),
    ("[5, 1, 2, 5]", "[5, 2, 1, 5]", 3, ["take / 1", "put / 2 1"]),
    ("[0, 0, 1, 2]", "[0, 1, 3]", 3, ["take / 1", "set /2 3"]),
    ("[1, 2, 1, 2]", "[2, 1]", 2, ["take / 0", "take / 2"]),
    ("[1, 2, 1, 2, 0, 0, 0]", "[2, 1, 0, 0, 0]", 2, ["take / 0", "take / 2"]),
    ("[[], 1, []]", "[[]]", 2, ["take / 1", "take / 1"]),
    ("[[1], []]", "[[]]", 1, ["take / 0"]),
    ("[[], [1]]", "[[1]]", 1, ["take / 0"]),
    ("[[1], [1, 2]]", "[[]]", 2, ["take /0 0", "take / 1"]),
    # kept and changed within
    ("[[1, 2, 3], 5]", "[[1, 2, 4], 5]", 2, ["set /0/2 4"]),
    ("[{a: 1, b: 2}, 5]", "[{a: 1, b: 3}, 6]", 4, ["set /0/b 3", "set /1 6"]),
    ("[9, {a: 1, b: 2}]", "[{a: 1, b: 3}]", 3, ["take / 0", "set /0/b 3"]),
    ("[{a: 1, b: 2}]", "[9, {a: 1, b: 3}]", 4, ["put / 0 9", "set /1/b 3"]),
    ("[[1, 2, 3], [4, 5, 6]]", "[[4, 5, 7]]", 3, ["take / 0", "set /0/2 7"]),
    ("[[1, 2], [3, 4]]", "[[2], [3, 4, 5]]", 3, ["take /0 0", "put /1 2 5"]),
    # places after earlier edits of the same row
    ("[1, 2, 3, 4, 5, 6]", "[2, 4, 6]", 3, ["take / 0", "take / 1", "take / 2"]),
    ("[2, 4, 6]", "[1, 2, 3, 4, 5, 6]", 6, ["put / 0 1", "put / 2 3", "put / 4 5"]),
    ("[0, 1, [2, 3], [4]]", "[1, [2], 7, [4, 5]]", 6, ["take / 0", "take /1 1", "put / 2 7", "put /3 1 5"]),
    ("[7, {a: [1, 2, 3]}, 8]", "[{a: [2, 3, 4]}, 8, 9]", 6, ["take / 0", "take /0/a 0", "put /0/a 2 4", "put / 2 9"]),
    # paths of several steps, through fields and items
    ("{a: [0, {b: [[1, 2]]}]}", "{a: [0, {b: [[1, 3]]}]}", 2, ["set /a/1/b/0/1 3"]),
    ("[[[[[1]]]]]", "[[[[[2]]]]]", 2, ["set /0/0/0/0/0 2"]),
    (nested(6), "[[[[[]]]]]", 1, ["take /0/0/0/0 0"]),
    ("[[[[[]]]]]", nested(6), 2, ["put /0/0/0/0 0 []"]),
    ("{abcdefghij: {a1: [[1], 2]}}", "{abcdefghij: {a1: [[1, 5], 2]}}", 2, ["put /abcdefghij/a1/0 1 5"]),
    # as large as values may be
    (written_list(range(12)), written_list(range(20, 32)), 14, ["set / " + written_list(range(20, 32))]),
    (written_list(range(12)), written_list(range(1, 13)), 3, ["take / 0", "put / 11 12"]),
    (written_list(range(12)), written_list(range(-1, 11)), 3, ["put / 0 -1", "take / 12"]),
    (written_list(range(12)), written_list(range(0, 12, 2)), 6, ["take / %d" % place for place in range(1, 7)]),
    (written_list(range(0, 12, 2)), written_list(range(12)), 12, ["put / %d %d" % (n, n) for n in range(1, 12, 2)]),
    (written_record(12), written_record(12, "g"), 14, ["set / " + written_record(12, "g")]),
    (written_record(12), written_record(12).replace("11: 11", "11: 0"), 2, ["set /f11 0"]),
    (with_entries(60), "[]", 2, ["set / []"]),
    ("[]", with_entries(60), 61, ["set / " + with_entries(60)]),
    (with_entries(60), with_entries(59), 1, ["take / 10"]),
]


def diff(value, other):
    """What the least row costs, and its edits."""
    answer = last(("value", value), ("other", other), "diff")
    return answer[0], texts_of(answer[1:])


class Diff(unittest.TestCase):
    def test_least_rows(self):
        for value, other, cost, edits in ROWS:
            with self.subTest(value=value, other=other):
                self.assertEqual(diff(value, other), (cost, edits))

    def test_the_row_makes_the_other_one(self):
        for value, other, cost, edits in ROWS:
            with self.subTest(value=value, other=other):
                told = [("value", value), ("rows", lines(*edits)), "show"]
                given = answered(*told)
                self.assertEqual(given[1], [0, len(edits)])
                self.assertEqual(text_of(given[2]), other)

    def test_it_costs_what_its_edits_cost(self):
        for value, other, cost, edits in ROWS:
            with self.subTest(value=value, other=other):
                given = answered("size", *[("cost", edit) for edit in edits])[1:]
                self.assertEqual(sum(answer[0] for answer in given), cost)

    def test_of_a_new_object(self):
        self.assertEqual(last("diff"), [0, 0])
        self.assertEqual(last("meet"), [1, 0])

    def test_diff_changes_nothing(self):
        told = [("value", "[1]"), ("other", "[5]"), ("edit", "put / 1 2"), ("edit", "put / 2 3"), "undo"]
        given = answered(*told, "diff", "diff", "show", "size", "redo", "show")[5:]
        self.assertEqual(given[0], given[1])
        self.assertEqual([given[0][0], texts_of(given[0][1:])], [3, ["set /0 5", "take / 1"]])
        self.assertEqual(text_of(given[2]), "[1, 2]")
        self.assertEqual(given[3:5], [[3, 2, 1, 1], [2, 0]])
        self.assertEqual(text_of(given[5]), "[1, 2, 3]")

    def test_diff_goes_from_what_is_there_to_what_is_there(self):
        told = [("value", "[1]"), ("other", "[2]"), ("edit", "put / 1 2"), "diff", ("other", "7"), "diff", "undo",
                ("other", "[]"), "diff"]
        given = answered(*told)
        self.assertEqual([texts_of(given[place][1:]) for place in (3, 5, 8)], [["take / 0"], ["set / 7"], ["take / 0"]])


class Meet(unittest.TestCase):
    def test_the_value_becomes_the_other_one(self):
        for value, other, cost, edits in ROWS:
            with self.subTest(value=value, other=other):
                told = [("value", value), ("other", other), "meet", "show", "diff", "size", "undo", "show", "redo", "show"]
                given = answered(*told)
                entries = given[1][0]
                self.assertEqual(given[2], [1, len(edits)])
                self.assertEqual(text_of(given[3]), other)
                self.assertEqual(given[4:7], [[0, 0], [entries, entries, 1, 0], [0, 1]])
                self.assertEqual(text_of(given[7]), value)
                self.assertEqual(given[8], [1, 0])
                self.assertEqual(text_of(given[9]), other)

    def test_it_is_a_deed_even_if_they_are_the_same(self):
        told = [("value", "[1]"), ("other", "[1]"), ("edit", "put / 0 5"), "undo", "size", "meet", "size", "redo", "meet",
                "size", "undo", "undo", "undo"]
        self.assertEqual(answered(*told)[4:], [[2, 2, 0, 1], [1, 0], [2, 2, 1, 0], [-9], [1, 0], [2, 2, 2, 0], [1, 1],
                                               [0, 2], [-9]])

    def test_meet_leaves_the_other_one(self):
        told = [("value", "[1]"), ("other", "[2, 3]"), "meet", ("edit", "set / 0"), "size", "meet", "show", "size"]
        given = answered(*told)
        self.assertEqual(given[4], [1, 3, 2, 0])
        self.assertEqual(given[5], [1, 1])
        self.assertEqual(text_of(given[6]), "[2, 3]")
        self.assertEqual(given[7], [3, 3, 3, 0])

    def test_meet_is_done_again_as_it_was(self):
        told = [("value", "[1]"), ("other", "[2]"), "meet", "undo", ("other", "[3]"), "redo"]
        self.assertEqual(shown(*told), "[2]")

    def test_large_values_on_the_way(self):
        # Each item is taken out or put in whole, so that the list is longest in between.
        firsts = ["[%d, 1, 2, 3]" % place for place in range(11)]
        seconds = ["{a: %d, b: 1, c: 2}" % place for place in range(11)]
        for value, other in ((written_list(firsts), written_list(seconds)), (written_list(seconds), written_list(firsts)),
                             (written_list(firsts), written_list(seconds[5:] + firsts[:5])),
                             (written_list(firsts[6:] + seconds[:6]), written_list(seconds))):
            with self.subTest(value=value, other=other):
                told = [("value", value), ("other", other), "meet", "diff"]
                given = answered(*told)
                self.assertEqual([given[2][0], given[3]], [1, [0, 0]])


# Values for the tests below: a whole number, a text, a list, or a record as a tuple of pairs.

def written(value):
    if isinstance(value, int):
        return str(value)
    if isinstance(value, str):
        return '"' + value + '"'
    if isinstance(value, list):
        return written_list(map(written, value))
    return "{" + ", ".join(name + ": " + written(part) for name, part in value) + "}"


def entries(value):
    if isinstance(value, list):
        return 1 + sum(map(entries, value))
    if isinstance(value, tuple):
        return 1 + sum(entries(part) for name, part in value)
    return 1


def below(step, row):
    return [(word, "/" + step + (path if path != "/" else ""), told) for word, path, told in row]


def all_ways(first, second, come):
    """Every way from one list to the other: its cost, its steps (0 keep, 1 take, 2 put), and its row."""
    if not first and not second:
        yield 0, [], []
    if first and second:
        cost, row = expected(first[0], second[0])
        for more, steps, behind in all_ways(first[1:], second[1:], come + 1):
            yield cost + more, [0] + steps, below(str(come), row) + behind
    if first:
        for more, steps, behind in all_ways(first[1:], second, come):
            yield 1 + more, [1] + steps, [("take", "/", str(come))] + behind
    if second:
        told = str(come) + " " + written(second[0])
        for more, steps, behind in all_ways(first, second[1:], come + 1):
            yield 1 + entries(second[0]) + more, [2] + steps, [("put", "/", told)] + behind


def expected(first, second):
    """The least row by looking at every way: its cost, and its edits."""
    if written(first) == written(second):
        return 0, []
    setting = 1 + entries(second), [("set", "/", written(second))]
    if isinstance(first, list) and isinstance(second, list):
        cost, steps, row = min(all_ways(first, second, 0))
    elif isinstance(first, tuple) and isinstance(second, tuple) and [n for n, p in first] == [n for n, p in second]:
        rows = [(name, expected(part, goal)) for (name, part), (name, goal) in zip(first, second)]
        cost = sum(row[0] for name, row in rows)
        row = [edit for name, found in rows for edit in below(name, found[1])]
    else:
        return setting
    return (cost, row) if cost <= setting[0] else setting


def some_value(source, deep):
    kind = source.randrange(5 if deep > 1 else 2)
    if kind == 0:
        return source.randrange(3)
    if kind == 1:
        return source.choice(["", "x"])
    if kind == 2:
        names = source.choice([[], ["a"], ["a", "b"], ["a", "b"], ["b", "a"]])
        return tuple((name, some_value(source, deep - 1)) for name in names)
    return [some_value(source, deep - 1) for place in range(source.randrange(5))]


def altered(source, value, deep):
    """The value with something here and there changed."""
    if source.randrange(6) == 0:
        return some_value(source, deep)
    if isinstance(value, tuple):
        return tuple((name, altered(source, part, deep - 1)) for name, part in value)
    if isinstance(value, list):
        items = [altered(source, item, deep - 1) for item in value if source.randrange(5)]
        if source.randrange(3) == 0 and len(items) < 5 and deep > 1:
            items.insert(source.randrange(len(items) + 1), some_value(source, deep - 1))
        return items
    return value


class EveryWay(unittest.TestCase):
    """The least rows of many small values, beside those that are found by looking at every way."""

    def check(self, first, second):
        cost, row = expected(first, second)
        with self.subTest(first=written(first), second=written(second)):
            self.assertEqual(diff(written(first), written(second)), (cost, [" ".join(edit) for edit in row]))

    def test_lists_of_numbers(self):
        source = random.Random(3)
        for turn in range(400):
            first = [source.randrange(3) for place in range(source.randrange(6))]
            second = [source.randrange(3) for place in range(source.randrange(6))]
            self.check(first, second)

    def test_values_of_all_kinds(self):
        source = random.Random(5)
        checked = 0
        for turn in range(1500):
            first = some_value(source, 4)
            second = altered(source, first, 4)
            if entries(first) <= 20 and entries(second) <= 20:
                self.check(first, second)
                checked += 1
        self.assertGreater(checked, 500)

    def test_rows_of_large_values_lead_to_the_other_one(self):
        source = random.Random(9)
        checked = 0
        for turn in range(500):
            first = [some_value(source, 5) for place in range(source.randrange(8))]
            second = altered(source, first, 6)
            if max(entries(first), entries(second)) > 60:
                continue
            told = [("value", written(first)), ("other", written(second)), "diff"]
            cost, edits = diff(written(first), written(second))
            given = answered(*told, "meet", "show", "undo", ("rows", lines(*edits)), "show")
            with self.subTest(first=written(first), second=written(second)):
                self.assertEqual(given[3], [1, len(edits)])
                self.assertEqual(given[6], [0, len(edits)])
                self.assertEqual([text_of(given[4]), text_of(given[7])], [written(second)] * 2)
                self.assertLessEqual(cost, 1 + entries(second))
            checked += 1
        self.assertGreater(checked, 200)


if __name__ == "__main__":
    unittest.main()

"""The desk at which values are edited: the calls and their answers."""

from valueedits.applying import applied, value_made, value_made_by_row
from valueedits.costs import edit_cost
from valueedits.edits import edit_from, edit_text, edits_from
from valueedits.least import least_row
from valueedits.reading import value_from
from valueedits.refusals import Inapplicable, NoDeed, Unreadable
from valueedits.shapes import EMPTY_RECORD, count_entries, depth_of, is_value
from valueedits.turning import turned_back
from valueedits.writing import value_text


class Desk:
    """The object that a line's calls are on.

    A deed is kept as the value that it was done to (undoable) or the value that it made (redoable).
    """

    def __init__(self):
        self.value = EMPTY_RECORD
        self.other = EMPTY_RECORD
        self.undoable = []
        self.redoable = []

    def begin_with(self, value):
        self.value = value
        self.undoable = []
        self.redoable = []

    def do_deed(self, made):
        self.undoable.append(self.value)
        self.redoable = []
        self.value = made

    def undo_deed(self):
        if len(self.undoable) == 0:
            raise NoDeed()
        self.redoable.append(self.value)
        self.value = self.undoable.pop()

    def redo_deed(self):
        if len(self.redoable) == 0:
            raise NoDeed()
        self.undoable.append(self.value)
        self.value = self.redoable.pop()

    def deed_counts(self):
        """How many deeds can be undone, how many done again."""
        return [len(self.undoable), len(self.redoable)]


def measures(value):
    return [count_entries(value), depth_of(value)]


def counted(text):
    return [len(text)] + text


def answer_value(desk, texts):
    desk.begin_with(value_from(texts[0]))
    return measures(desk.value)


def answer_other(desk, texts):
    desk.other = value_from(texts[0])
    return measures(desk.other)


def answer_show(desk, texts):
    return counted(value_text(desk.value))


def answer_edit(desk, texts):
    desk.do_deed(value_made(edit_from(texts[0]), desk.value))
    return measures(desk.value)


def answer_rows(desk, texts):
    edits = edits_from(texts[0])
    made = desk.value
    for count, edit in enumerate(edits):
        try:
            made = applied(edit, made)
        except Inapplicable:
            return [1, count]
    if not is_value(made):
        return [1, len(edits)]
    desk.do_deed(made)
    return [0, len(edits)]


def answer_try(desk, texts):
    edit = edit_from(texts[0])
    try:
        made = value_made(edit, desk.value)
    except Inapplicable:
        return [0]
    return [1] + counted(value_text(made))


def answer_back(desk, texts):
    edit = edit_from(texts[0])
    # Only looked at: back is refused where the edit would be.
    value_made(edit, desk.value)
    return counted(edit_text(turned_back(edit, desk.value)))


def answer_cost(desk, texts):
    return [edit_cost(edit_from(texts[0]))]


def answer_diff(desk, texts):
    row = least_row(desk.value, desk.other)
    answer = [row.cost, len(row.edits)]
    for edit in row.edits:
        answer.extend(counted(edit_text(edit)))
    return answer


def answer_meet(desk, texts):
    row = least_row(desk.value, desk.other)
    desk.do_deed(value_made_by_row(row.edits, desk.value))
    return [1 if desk.value == desk.other else 0, len(row.edits)]


def answer_commute(desk, texts):
    one = edit_from(texts[0])
    other = edit_from(texts[1])
    try:
        one_first = value_made_by_row([one, other], desk.value)
        other_first = value_made_by_row([other, one], desk.value)
    except Inapplicable:
        return [0]
    return [1 if one_first == other_first else 0]


def answer_undo(desk, texts):
    desk.undo_deed()
    return desk.deed_counts()


def answer_redo(desk, texts):
    desk.redo_deed()
    return desk.deed_counts()


def answer_size(desk, texts):
    return [count_entries(desk.value), count_entries(desk.other)] + desk.deed_counts()


# Each call's number, with what answers it and how many texts it has.
CALLS = {
    0: (answer_value, 1),
    1: (answer_other, 1),
    2: (answer_show, 0),
    3: (answer_edit, 1),
    4: (answer_rows, 1),
    5: (answer_try, 1),
    6: (answer_back, 1),
    7: (answer_cost, 1),
    8: (answer_diff, 0),
    9: (answer_meet, 0),
    10: (answer_commute, 2),
    11: (answer_undo, 0),
    12: (answer_redo, 0),
    13: (answer_size, 0),
}


def answer_of(desk, number, texts):
    answering = CALLS[number][0]
    try:
        return answering(desk, texts)
    except Unreadable:
        return [-1]
    except Inapplicable:
        return [-5]
    except NoDeed:
        return [-9]


def answers(calls):
    desk = Desk()
    given = []
    place = 0
    while place < len(calls):
        number = calls[place]
        place += 1
        texts = []
        for count in range(CALLS[number][1]):
            start = place + 1
            place = start + calls[place]
            texts.append(calls[start:place])
        answer = answer_of(desk, number, texts)
        given.append(len(answer))
        given.extend(answer)
    return given

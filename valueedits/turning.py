"""What turns edits back, where they are applied."""

from valueedits.applying import field_place, value_at
from valueedits.edits import Edit
from valueedits.shapes import parts_of


def back_of_set(edit, here):
    return Edit("set", edit.path, (here,))


def back_of_put(edit, here):
    return Edit("take", edit.path, (edit.details[0],))


def back_of_take(edit, here):
    place = edit.details[0]
    return Edit("put", edit.path, (place, parts_of(here)[place]))


def back_of_move(edit, here):
    return Edit("move", edit.path, (edit.details[1], edit.details[0]))


def back_of_add(edit, here):
    return Edit("drop", edit.path, (edit.details[1],))


def back_of_drop(edit, here):
    name = edit.details[0]
    place = field_place(here, name)
    return Edit("add", edit.path, (place, name, parts_of(here)[place]))


def back_of_rename(edit, here):
    return Edit("rename", edit.path, (edit.details[1], edit.details[0]))


BACKS = {
    "set": back_of_set,
    "put": back_of_put,
    "take": back_of_take,
    "move": back_of_move,
    "add": back_of_add,
    "drop": back_of_drop,
    "rename": back_of_rename,
}


def turned_back(edit, value):
    """The edit that turns back an edit that applies to the value."""
    return BACKS[edit.word](edit, value_at(value, edit.path))

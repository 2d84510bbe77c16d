"""Edits: what they hold, and their texts.

A path is a tuple of steps: a name (a text) leads to a record's field, a whole number to a list's item.
"""

from valueedits.reading import Reader, as_count, as_name, read_count, read_name, read_value
from valueedits.refusals import Unreadable
from valueedits.writing import bytes_of, joined, value_text

LINE_END = 10

PLACE = "place"
NAME = "name"
VALUE = "value"

# What each edit tells behind its path, in order.
FORMS = {
    "set": (VALUE,),
    "put": (PLACE, VALUE),
    "take": (PLACE,),
    "move": (PLACE, PLACE),
    "add": (PLACE, NAME, VALUE),
    "drop": (NAME,),
    "rename": (NAME, NAME),
}


class Edit:
    """An edit: its word, its path, and the tuple of what it tells behind the path."""

    def __init__(self, word, path, details):
        self.word = word
        self.path = path
        self.details = details


def as_step(word):
    if word.isdigit():
        return as_count(word)
    return as_name(word)


def read_path(reader):
    reader.expect("/")
    if reader.ahead() == ord(" "):
        return ()
    steps = [as_step(reader.pass_word())]
    while reader.meets("/"):
        steps.append(as_step(reader.pass_word()))
    return tuple(steps)


def read_detail(reader, form):
    if form == PLACE:
        return read_count(reader)
    if form == NAME:
        return read_name(reader)
    return read_value(reader)


def edit_from(text):
    """The edit whose text is the whole text."""
    reader = Reader(text)
    word = reader.pass_word()
    if word not in FORMS:
        raise Unreadable()
    reader.expect(" ")
    path = read_path(reader)
    details = []
    for form in FORMS[word]:
        reader.expect(" ")
        details.append(read_detail(reader, form))
    if not reader.ended():
        raise Unreadable()
    return Edit(word, path, tuple(details))


def edits_from(text):
    """The edits whose texts are the text's lines."""
    edits = []
    line = []
    for byte in text:
        if byte == LINE_END:
            edits.append(edit_from(line))
            line = []
        else:
            line.append(byte)
    if len(line) > 0:
        raise Unreadable()
    return edits


def step_text(step):
    if isinstance(step, str):
        return bytes_of(step)
    return bytes_of(str(step))


def path_text(path):
    return bytes_of("/") + joined([step_text(step) for step in path], "/")


def detail_text(form, detail):
    if form == PLACE:
        return bytes_of(str(detail))
    if form == NAME:
        return bytes_of(detail)
    return value_text(detail)


def edit_text(edit):
    words = [bytes_of(edit.word), path_text(edit.path)]
    for form, detail in zip(FORMS[edit.word], edit.details):
        words.append(detail_text(form, detail))
    return joined(words, " ")

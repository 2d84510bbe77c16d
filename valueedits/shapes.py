"""Values, and what may come of edits on the way from one value to another.

A value is a tuple of three: its kind, what it holds itself (a text's bytes as a tuple, a number, a record's
names as a tuple of texts), and the tuple of the values within it. Tuples never change, so values can share parts.
"""

TEXT = "text"
NUMBER = "number"
RECORD = "record"
LIST = "list"

EMPTY_RECORD = (RECORD, (), ())

MOST_SIGNS = 30
MOST_NUMBER = 1000000000
MOST_NAME_BYTES = 10
MOST_DEEP = 6
MOST_PARTS = 12
MOST_ENTRIES = 60
MOST_PARTS_ON_THE_WAY = 24
MOST_ENTRIES_ON_THE_WAY = 120


def text_value(signs):
    return (TEXT, tuple(signs), ())


def number_value(number):
    return (NUMBER, number, ())


def record_value(names, parts):
    return (RECORD, tuple(names), tuple(parts))


def list_value(parts):
    return (LIST, (), tuple(parts))


def kind_of(value):
    return value[0]


def own_of(value):
    """A text's bytes, a number, or a record's names."""
    return value[1]


def parts_of(value):
    """A record's or a list's values; a text or a number has none."""
    return value[2]


def count_entries(value):
    return 1 + sum([count_entries(part) for part in parts_of(value)])


def depth_of(value):
    return 1 + max([depth_of(part) for part in parts_of(value)], default=0)


def most_parts_in(value):
    """How many parts the record or list in it with the most of them has."""
    return max([len(parts_of(value))] + [most_parts_in(part) for part in parts_of(value)])


def keeps_within(value, most_entries, most_parts):
    if depth_of(value) > MOST_DEEP:
        return False
    return count_entries(value) <= most_entries and most_parts_in(value) <= most_parts


def is_value(value):
    """Whether it is small enough for a value; its texts, numbers and names were looked at when they were read."""
    return keeps_within(value, MOST_ENTRIES, MOST_PARTS)


def may_be_on_the_way(value):
    return keeps_within(value, MOST_ENTRIES_ON_THE_WAY, MOST_PARTS_ON_THE_WAY)

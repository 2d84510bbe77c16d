"""Applying of edits to values, and to what comes of edits on the way."""

from valueedits.refusals import Inapplicable
from valueedits.shapes import LIST, RECORD
from valueedits.shapes import is_value, kind_of, list_value, may_be_on_the_way, own_of, parts_of, record_value


def require(holds):
    if not holds:
        raise Inapplicable()


def with_more(parts, place, part):
    return parts[:place] + (part,) + parts[place:]


def without(parts, place):
    return parts[:place] + parts[place + 1:]


def with_other(parts, place, part):
    return parts[:place] + (part,) + parts[place + 1:]


def items_of(here):
    require(kind_of(here) == LIST)
    return parts_of(here)


def names_of(here):
    require(kind_of(here) == RECORD)
    return own_of(here)


def item_place(here, place):
    """The place, if it is one of an item."""
    require(place < len(items_of(here)))
    return place


def field_place(here, name):
    names = names_of(here)
    require(name in names)
    return names.index(name)


def set_here(here, details):
    return details[0]


def put_here(here, details):
    require(details[0] <= len(items_of(here)))
    return list_value(with_more(items_of(here), details[0], details[1]))


def take_here(here, details):
    return list_value(without(items_of(here), item_place(here, details[0])))


def move_here(here, details):
    source = item_place(here, details[0])
    goal = item_place(here, details[1])
    items = items_of(here)
    return list_value(with_more(without(items, source), goal, items[source]))


def add_here(here, details):
    names = names_of(here)
    place = details[0]
    require(place <= len(names) and details[1] not in names)
    return record_value(with_more(names, place, details[1]), with_more(parts_of(here), place, details[2]))


def drop_here(here, details):
    place = field_place(here, details[0])
    return record_value(without(names_of(here), place), without(parts_of(here), place))


def rename_here(here, details):
    place = field_place(here, details[0])
    require(details[1] == details[0] or details[1] not in names_of(here))
    return record_value(with_other(names_of(here), place, details[1]), parts_of(here))


CHANGES = {
    "set": set_here,
    "put": put_here,
    "take": take_here,
    "move": move_here,
    "add": add_here,
    "drop": drop_here,
    "rename": rename_here,
}


def step_place(here, step):
    """Which of the parts the step leads to."""
    if isinstance(step, str):
        return field_place(here, step)
    return item_place(here, step)


def value_at(value, path):
    here = value
    for step in path:
        here = parts_of(here)[step_place(here, step)]
    return here


def with_part(value, place, part):
    parts = with_other(parts_of(value), place, part)
    if kind_of(value) == RECORD:
        return record_value(own_of(value), parts)
    return list_value(parts)


def applied(edit, value):
    """What comes of the edit."""
    here = value
    passed = []
    for step in edit.path:
        place = step_place(here, step)
        passed.append((here, place))
        here = parts_of(here)[place]
    made = CHANGES[edit.word](here, edit.details)
    for above, place in reversed(passed):
        made = with_part(above, place, made)
    require(may_be_on_the_way(made))
    return made


def value_made_by_row(edits, value):
    """The value that the row of edits makes of the value."""
    made = value
    for edit in edits:
        made = applied(edit, made)
    require(is_value(made))
    return made


def value_made(edit, value):
    """The value that the edit makes of the value."""
    return value_made_by_row([edit], value)

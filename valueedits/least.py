"""The least row of edits from one value, the first, to another, the second."""

from valueedits.costs import Row, cost_of, row_then, row_of
from valueedits.edits import Edit
from valueedits.shapes import LIST, RECORD, kind_of, own_of, parts_of


def led_by(step, row):
    """The row with the step before all paths."""
    edits = [Edit(edit.word, (step,) + edit.path, edit.details) for edit in row.edits]
    return Row(edits, row.cost)


def record_row(first, second):
    row = Row([], 0)
    for name, source, goal in zip(own_of(first), parts_of(first), parts_of(second)):
        row = row_then(row, led_by(name, least_row(source, goal)))
    return row


def ways_on(sources, goals, rest, gone, come):
    """The ways on from where so many sources are gone and so many goals have come: keep, take, put, in this order.

    The goals that have come stand at the list's beginning, so the next edit's place is how many they are.
    """
    ways = []
    if gone < len(sources) and come < len(goals):
        kept = led_by(come, least_row(sources[gone], goals[come]))
        ways.append(row_then(kept, rest[(gone + 1, come + 1)]))
    if gone < len(sources):
        ways.append(row_then(row_of(Edit("take", (), (come,))), rest[(gone + 1, come)]))
    if come < len(goals):
        ways.append(row_then(row_of(Edit("put", (), (come, goals[come]))), rest[(gone, come + 1)]))
    return ways


def list_row(first, second):
    sources = parts_of(first)
    goals = parts_of(second)
    rest = {}
    for gone in range(len(sources), -1, -1):
        for come in range(len(goals), -1, -1):
            ways = ways_on(sources, goals, rest, gone, come)
            # Of several that cost the same, min takes the foremost.
            rest[(gone, come)] = min(ways, key=cost_of, default=Row([], 0))
    return rest[(0, 0)]


def least_row(first, second):
    if first == second:
        return Row([], 0)
    setting = row_of(Edit("set", (), (second,)))
    if kind_of(first) != kind_of(second):
        return setting
    # Where both rows cost the same, min takes the one that stands first.
    if kind_of(first) == RECORD and own_of(first) == own_of(second):
        return min([record_row(first, second), setting], key=cost_of)
    if kind_of(first) == LIST:
        return min([list_row(first, second), setting], key=cost_of)
    return setting

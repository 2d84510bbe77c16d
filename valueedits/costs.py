"""What edits cost, alone and in a row."""

from valueedits.edits import FORMS, VALUE
from valueedits.shapes import count_entries


class Row:
    """A row of edits, and what they cost together."""

    def __init__(self, edits, cost):
        self.edits = edits
        self.cost = cost


def edit_cost(edit):
    cost = 1
    for form, detail in zip(FORMS[edit.word], edit.details):
        if form == VALUE:
            cost += count_entries(detail)
    return cost


def cost_of(row):
    return row.cost


def row_of(edit):
    return Row([edit], edit_cost(edit))


def row_then(row, later):
    """Both rows as one, the later one behind the other."""
    return Row(row.edits + later.edits, row.cost + later.cost)

"""Edits of values: valueedits.desk.answers answers the calls."""

"""The errors by which a call is refused, one for each refusal."""


class Unreadable(Exception):
    """A text is not that of a value, or of an edit."""


class Inapplicable(Exception):
    """An edit does not apply, or does not make a value."""


class NoDeed(Exception):
    """There is no deed to be undone, or to be done again."""

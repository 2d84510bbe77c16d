"""Lines of calls for the tests: told by words, answered call by call."""

from valueedits.desk import answers

NUMBERS = {"value": 0, "other": 1, "show": 2, "edit": 3, "rows": 4, "try": 5, "back": 6, "cost": 7, "diff": 8, "meet": 9,
           "commute": 10, "undo": 11, "redo": 12, "size": 13}

PATHS = ["/", "/", "/", "/a", "/b", "/0", "/1", "/a/0", "/0/a", "/a/b", "/1/1"]
SMALL_VALUES = ["1", '"x"', "{}", "[]", "{a: 1}", "[1, 2]", "{a: [], b: {c: 2}}", "[[3], {a: 4}]"]
NAMES = ["a", "b", "c"]


def as_bytes(text):
    """The bytes of an ASCII text; a list is taken to be bytes already."""
    return [ord(sign) for sign in text] if isinstance(text, str) else list(text)


def calls_of(*told):
    """The list of the calls; each is told as its word, or as its word and its texts."""
    calls = []
    for call in told:
        call = (call,) if isinstance(call, str) else call
        calls.append(NUMBERS[call[0]])
        for text in call[1:]:
            calls.append(len(as_bytes(text)))
            calls.extend(as_bytes(text))
    return calls


def parted(given):
    """The answers, each a list of its own."""
    parts = []
    place = 0
    while place < len(given):
        count = given[place]
        assert count >= 1, given
        assert place + 1 + count <= len(given), given
        parts.append(given[place + 1:place + 1 + count])
        place += 1 + count
    return parts


def answered(*told):
    """What each of the calls answers."""
    parts = parted(answers(calls_of(*told)))
    assert len(parts) == len(told), parts
    return parts


def last(*told):
    """What the last of the calls answers."""
    return answered(*told)[-1]


def text_of(answer):
    """The text that an answer is."""
    assert answer[0] == len(answer) - 1, answer
    return "".join(map(chr, answer[1:]))


def texts_of(answer):
    """The texts that an answer is."""
    texts = []
    place = 1
    while place < len(answer):
        behind = place + 1 + answer[place]
        texts.append(text_of(answer[place:behind]))
        place = behind
    assert answer[0] == len(texts), answer
    return texts


def shown(*told):
    """The value's text behind the calls."""
    return text_of(last(*told, "show"))


def lines(*texts):
    return "".join(text + "\n" for text in texts)


def written_list(items):
    return "[" + ", ".join(str(item) for item in items) + "]"


def written_record(count, first="f"):
    """A record of so many fields f0, f1 and so on, each with its place as value."""
    return "{" + ", ".join("%s%d: %d" % (first, place, place) for place in range(count)) + "}"


def nested(deep):
    """A list that is so deep."""
    return "[" * deep + "]" * deep


def with_entries(count):
    """A list of so many entries, from 14 to 60, at most 3 deep and with at most 12 items in each list."""
    items = []
    left = count - 1
    while left > 12 - len(items):
        inner = min(12, left - 1)
        items.append(written_list([0] * inner))
        left -= inner + 1
    return written_list(items + [0] * left)


def some_edit(source):
    """An edit's text; many of these apply to small values."""
    word = source.choice(["set", "put", "put", "take", "move", "add", "add", "drop", "rename"])
    told = [word, source.choice(PATHS)]
    if word in ("put", "take", "move", "add"):
        told.append(str(source.randrange(3)))
    if word == "move":
        told.append(str(source.randrange(3)))
    if word in ("add", "drop", "rename"):
        told.append(source.choice(NAMES))
    if word == "rename":
        told.append(source.choice(NAMES))
    if word in ("set", "put", "add"):
        told.append(source.choice(SMALL_VALUES))
    return " ".join(told)

"""Reading of values out of texts, which are lists of bytes."""

from valueedits.refusals import Unreadable
from valueedits.shapes import MOST_DEEP, MOST_NAME_BYTES, MOST_NUMBER, MOST_SIGNS
from valueedits.shapes import is_value, list_value, number_value, record_value, text_value

END = -1
FIRST_SIGN = 32
LAST_SIGN = 126
SMALL_LETTERS = "abcdefghijklmnopqrstuvwxyz"
DIGITS = "0123456789"


class Reader:
    """A text, and how far it has been read."""

    def __init__(self, text):
        self.text = text
        self.place = 0

    def ahead(self):
        """The byte that comes next, or END."""
        if self.place < len(self.text):
            return self.text[self.place]
        return END

    def ended(self):
        return self.place >= len(self.text)

    def pass_byte(self):
        """The byte that comes next, or END; it counts as read from now on."""
        byte = self.ahead()
        self.place += 1
        return byte

    def meets(self, sign):
        """Whether the sign comes next; only then it counts as read."""
        if self.ahead() != ord(sign):
            return False
        self.place += 1
        return True

    def expect(self, signs):
        for sign in signs:
            if not self.meets(sign):
                raise Unreadable()

    def pass_word(self):
        """The longest run of small letters and digits that comes next."""
        signs = []
        sign = word_sign(self.ahead())
        while sign != "":
            signs.append(sign)
            self.place += 1
            sign = word_sign(self.ahead())
        return "".join(signs)


def word_sign(byte):
    """The small letter or digit that the byte is; a text without signs if it is neither."""
    if ord("a") <= byte and byte <= ord("z"):
        return SMALL_LETTERS[byte - ord("a")]
    if ord("0") <= byte and byte <= ord("9"):
        return DIGITS[byte - ord("0")]
    return ""


def as_name(word):
    if word == "" or word[0].isdigit() or len(word) > MOST_NAME_BYTES:
        raise Unreadable()
    return word


def as_count(word):
    """The number from 0 up that the word is."""
    # The length is looked at first: Python refuses to read numbers of some thousand digits.
    if not word.isdigit() or len(word) > len(str(MOST_NUMBER)):
        raise Unreadable()
    count = int(word)
    if count > MOST_NUMBER or word != str(count):
        raise Unreadable()
    return count


def read_name(reader):
    return as_name(reader.pass_word())


def read_count(reader):
    return as_count(reader.pass_word())


def read_number(reader):
    if not reader.meets("-"):
        return read_count(reader)
    count = read_count(reader)
    if count == 0:
        raise Unreadable()
    return -count


def read_marked_sign(reader):
    """One byte of a text in marks, without the \\ that may stand before it."""
    if reader.meets("\\"):
        if reader.ahead() != ord("\"") and reader.ahead() != ord("\\"):
            raise Unreadable()
        return reader.pass_byte()
    byte = reader.pass_byte()
    if byte < FIRST_SIGN or byte > LAST_SIGN:
        raise Unreadable()
    return byte


def read_text(reader):
    """The text behind the first mark, and the second mark."""
    signs = []
    while not reader.meets("\""):
        signs.append(read_marked_sign(reader))
    if len(signs) > MOST_SIGNS:
        raise Unreadable()
    return text_value(signs)


def read_record(reader, level):
    """The record behind its first sign."""
    names = []
    parts = []
    while not reader.meets("}"):
        if len(names) > 0:
            reader.expect(", ")
        name = read_name(reader)
        if name in names:
            raise Unreadable()
        names.append(name)
        reader.expect(": ")
        parts.append(read_part(reader, level + 1))
    return record_value(names, parts)


def read_list(reader, level):
    """The list behind its first sign."""
    parts = []
    while not reader.meets("]"):
        if len(parts) > 0:
            reader.expect(", ")
        parts.append(read_part(reader, level + 1))
    return list_value(parts)


def read_part(reader, level):
    # A text may hold thousands of lists within one another: stopping here keeps the calls within one another few.
    if level > MOST_DEEP:
        raise Unreadable()
    if reader.meets("{"):
        return read_record(reader, level)
    if reader.meets("["):
        return read_list(reader, level)
    if reader.meets("\""):
        return read_text(reader)
    return number_value(read_number(reader))


def read_value(reader):
    value = read_part(reader, 1)
    if not is_value(value):
        raise Unreadable()
    return value


def value_from(text):
    """The value whose text is the whole text."""
    reader = Reader(text)
    value = read_value(reader)
    if not reader.ended():
        raise Unreadable()
    return value

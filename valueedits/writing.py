"""Writing of values into texts, which are lists of bytes."""

from valueedits.shapes import LIST, NUMBER, RECORD, kind_of, own_of, parts_of


def bytes_of(signs):
    return [ord(sign) for sign in signs]


def joined(texts, between):
    """The texts one behind another, with the signs between each two neighbours."""
    whole = []
    for place, text in enumerate(texts):
        if place > 0:
            whole.extend(bytes_of(between))
        whole.extend(text)
    return whole


def in_marks(signs):
    marked = bytes_of("\"")
    for byte in signs:
        if byte == ord("\"") or byte == ord("\\"):
            marked.extend(bytes_of("\\"))
        marked.append(byte)
    return marked + bytes_of("\"")


def field_text(name, part):
    return bytes_of(name) + bytes_of(": ") + value_text(part)


def value_text(value):
    if kind_of(value) == NUMBER:
        return bytes_of(str(own_of(value)))
    if kind_of(value) == RECORD:
        fields = [field_text(name, part) for name, part in zip(own_of(value), parts_of(value))]
        return bytes_of("{") + joined(fields, ", ") + bytes_of("}")
    if kind_of(value) == LIST:
        return bytes_of("[") + joined([value_text(part) for part in parts_of(value)], ", ") + bytes_of("]")
    return in_marks(own_of(value))

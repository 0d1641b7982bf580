"""Rows, and the bodies that are made of them."""

from halfmade.paths import is_name, is_path

ROWS_AT_MOST = 40
TRIES_AT_MOST = 3

# What stands behind the word of each row but a try; a road is written as a path is.
PARTS = {
    "set": ("name", "number"),
    "now": ("name", "path"),
    "take": ("name", "path"),
    "draw": ("name", "path", "name"),
    "late": ("name", "path"),
    "ask": ("name", "path"),
    "note": ("path",),
    "fail": ("name",),
}
BINDING = ("set", "now", "take", "draw", "late", "ask")
GREAT_WORDS = ("NOMODULE", "NONAME", "HALF", "FLAT", "NOTASK", "ALL")


def is_whole(thing):
    """Whether a thing, whatever it is, is a whole number."""
    return isinstance(thing, int) and not isinstance(thing, bool)


def is_part(thing, kind):
    if kind == "name":
        return is_name(thing)
    if kind == "path":
        return is_path(thing)
    return is_whole(thing)


def is_word(thing):
    return is_name(thing) or (isinstance(thing, str) and thing in GREAT_WORDS)


def are_words(thing):
    if not isinstance(thing, tuple) or not all(is_word(word) for word in thing):
        return False
    return len(set(thing)) == len(thing)


def begins_with_text(thing):
    return isinstance(thing, tuple) and len(thing) > 0 and isinstance(thing[0], str)


def is_line(row):
    """Whether a tuple that begins with a text is a row other than a try."""
    kinds = PARTS.get(row[0])
    if kinds is None or len(row) != len(kinds) + 1:
        return False
    return all(is_part(part, kind) for part, kind in zip(row[1:], kinds))


def room_behind_row(row, room, tries):
    """How many rows a body has room for behind this one, or None where this can't stand in it.

    room is what there was ahead of it, tries how many more may stand one within another.
    Room goes from row to row, so that nothing is walked beyond what a body can hold.
    """
    if room == 0 or not begins_with_text(row):
        return None
    if row[0] != "try":
        return room - 1 if is_line(row) else None
    if tries == 0 or len(row) != 4 or not are_words(row[2]):
        return None
    left = room_behind_rows(row[1], room - 1, tries - 1)
    return None if left is None else room_behind_rows(row[3], left, tries - 1)


def room_behind_rows(rows, room, tries):
    """As room_behind_row, of what should be a tuple of rows."""
    if not isinstance(rows, tuple):
        return None
    left = room
    for row in rows:
        left = room_behind_row(row, left, tries)
        if left is None:
            return None
    return left


def is_row(thing):
    """Whether a thing, whatever it is, is a row that could stand in a body alone."""
    return room_behind_row(thing, ROWS_AT_MOST, TRIES_AT_MOST) is not None


def is_body(thing):
    """Whether a thing, whatever it is, is a body."""
    return room_behind_rows(thing, ROWS_AT_MOST, TRIES_AT_MOST) is not None


def bound_by(row):
    """The NAME that a row binds, or None."""
    return row[1] if row[0] in BINDING else None


def counted(body):
    """How many rows a body has, those within tries and the tries themselves counted."""
    many = len(body)
    for row in body:
        if row[0] == "try":
            many += counted(row[1]) + counted(row[3])
    return many

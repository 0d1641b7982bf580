"""Bodies written as texts, and read again."""

from halfmade.errors import NoText
from halfmade.rows import TRIES_AT_MOST, is_body


def row_text(row):
    """The lines of a row, each with its line feed."""
    if row[0] != "try":
        return " ".join(str(part) for part in row) + "\n"
    caught = " ".join(("caught",) + row[2])
    return "try\n" + body_text(row[1]) + caught + "\n" + body_text(row[3]) + "done\n"


def body_text(body):
    """The text of a body, or of the rows within a try."""
    return "".join(row_text(row) for row in body)


def number_of(word):
    """The number that a word tells in whatever way int reads, or None."""
    try:
        return int(word)
    except ValueError:
        return None


def row_of(line):
    """What a line tells, as a row other than a try; perhaps it is none."""
    words = tuple(line.split(" "))
    if words[0] != "set":
        return words
    return words[:-1] + (number_of(words[-1]),)


def begins_no_row(line):
    return line.split(" ")[0] in ("", "caught", "done")


def words_of(line):
    """The words of the line that stands between the first and the last rows of a try."""
    words = line.split(" ")
    if words[0] != "caught":
        raise NoText("a try has no line of what is caught")
    return tuple(words[1:])


def read_try(lines, at, tries):
    """The try that begins at a line, and the place behind it; tries as in read_rows."""
    if tries == 0:
        raise NoText("too many tries one within another")
    first, middle = read_rows(lines, at + 1, tries - 1)
    words = words_of(lines[middle])
    last, end = read_rows(lines, middle + 1, tries - 1)
    if lines[end] != "done":
        raise NoText("a try is not done")
    return ("try", first, words, last), end + 1


def read_rows(lines, at, tries):
    """The rows from a line on, and the place of the next line that begins none.

    tries is how many may stand one within another. The last line has no signs, so that
    there always is such a next line.
    """
    rows = []
    while not begins_no_row(lines[at]):
        if lines[at] == "try":
            row, at = read_try(lines, at, tries)
        else:
            row, at = row_of(lines[at]), at + 1
        rows.append(row)
    return tuple(rows), at


def read_body(text):
    """The body of which a thing, whatever it is, is the text."""
    if not isinstance(text, str):
        raise NoText("no text")
    if not ("\n" + text).endswith("\n"):
        raise NoText("the last line has no line feed behind it")
    body = read_rows(text.split("\n"), 0, TRIES_AT_MOST)[0]
    # The reading above is a lax one: whatever a body would be written otherwise is caught here.
    if not is_body(body) or body_text(body) != text:
        raise NoText("not written as a body is")
    return body

"""Things that several tests hand in."""

LINE = ("set", "x", 1)
# The greatest number of sixty figures.
SIXTY = 10 ** 60 - 1


class Sour:
    """A thing that can be neither compared, hashed nor measured."""

    __hash__ = None

    def __eq__(self, other):
        raise RuntimeError("compared")

    def __len__(self):
        raise RuntimeError("measured")

    def __bool__(self):
        raise RuntimeError("asked for its truth")


def no_texts():
    """Things of other kinds than texts, new ones each time."""
    return [
        None, True, False, 0, 1, -1, 10 ** 59, 1.5, float("nan"), b"", b"a", b"set",
        [], ["a"], ["a", "b"], (), ("a",), {}, {"a": 1}, set(), {"a"}, frozenset({"a"}),
        object(), str, len, range(3), bytearray(b"a"), Sour(),
    ]


def no_tuples():
    return [thing for thing in no_texts() if not isinstance(thing, tuple)]


# Signs that no name has; the last ones look like small letters, or are such ones beyond z.
FOREIGN_SIGNS = [
    "A", "Z", "0", "9", " ", "_", "-", "\t", "\n", "\r", "\0", "`", "{", ",", ":", "/",
    "\u00e9", "\u00df", "\u00aa", "\u0430", "\uff41", "\u0131", "\u00b2", "\u2028", "\ud800",
]


def with_sign_at_each_place(text, sign):
    """The text with the sign put in at each place, and in the place of each of its signs."""
    put_in = [text[:at] + sign + text[at:] for at in range(len(text) + 1)]
    in_place = [text[:at] + sign + text[at + 1:] for at in range(len(text))]
    return put_in + in_place


def tries(many, first=True, rows=(LINE,)):
    """The rows with so many tries around them, each in the first or the last rows of the next."""
    for level in range(many):
        rows = (("try", rows, (), ()) if first else ("try", (), (), rows),)
    return rows

import itertools
import unittest

from halfmade.bodytexts import body_text, read_body
from halfmade.errors import NoText
from halfmade.rows import is_body
from tests.things_at_hand import FOREIGN_SIGNS, LINE, SIXTY, no_texts, tries, with_sign_at_each_place

# Bodies and their texts, written out by hand.
WRITTEN = [
    ((), ""),
    ((("set", "x", 1),), "set x 1\n"),
    ((("set", "x", 0),), "set x 0\n"),
    ((("set", "x", -1),), "set x -1\n"),
    ((("set", "x", 10),), "set x 10\n"),
    ((("set", "x", -100),), "set x -100\n"),
    ((("set", "x", SIXTY),), "set x " + "9" * 60 + "\n"),
    ((("set", "x", -SIXTY),), "set x -" + "9" * 60 + "\n"),
    ((("set", "x", 10 ** 59),), "set x 1" + "0" * 59 + "\n"),
    ((("now", "x", "y.z"),), "now x y.z\n"),
    ((("take", "x", "a.b.c.d"),), "take x a.b.c.d\n"),
    ((("draw", "x", "a.b", "y"),), "draw x a.b y\n"),
    ((("late", "x", "y"),), "late x y\n"),
    ((("ask", "x", "y.z"),), "ask x y.z\n"),
    ((("note", "a.b"),), "note a.b\n"),
    ((("fail", "stop"),), "fail stop\n"),
    ((("try", (), (), ()),), "try\ncaught\ndone\n"),
    ((("try", (LINE,), (), ()),), "try\nset x 1\ncaught\ndone\n"),
    ((("try", (), ("ALL",), ()),), "try\ncaught ALL\ndone\n"),
    ((("try", (), (), (LINE,)),), "try\ncaught\nset x 1\ndone\n"),
    ((("try", (LINE, ("note", "a")), ("HALF", "stop", "FLAT"), (("fail", "no"), LINE)),),
     "try\nset x 1\nnote a\ncaught HALF stop FLAT\nfail no\nset x 1\ndone\n"),
    ((("try", (), ("NOMODULE", "NONAME", "HALF", "FLAT", "NOTASK", "ALL"), ()),),
     "try\ncaught NOMODULE NONAME HALF FLAT NOTASK ALL\ndone\n"),
    ((("try", (("try", (("try", (LINE,), ("a",), ()),), ("b",), ()),), ("c",), ()),),
     "try\ntry\ntry\nset x 1\ncaught a\ndone\ncaught b\ndone\ncaught c\ndone\n"),
    ((("try", (), ("c",), (("try", (), ("b",), (("try", (), ("a",), (LINE,)),)),)),),
     "try\ncaught c\ntry\ncaught b\ntry\ncaught a\nset x 1\ndone\ndone\ndone\n"),
    ((LINE, ("try", (("try", (), (), ()), LINE), (), (LINE, ("try", (), (), ()))), ("note", "a")),
     "set x 1\ntry\ntry\ncaught\ndone\nset x 1\ncaught\nset x 1\ntry\ncaught\ndone\ndone\nnote a\n"),
    ((("set", "set", 1), ("take", "try", "done"), ("note", "try"), ("note", "caught.done")),
     "set set 1\ntake try done\nnote try\nnote caught.done\n"),
    ((("fail", "done"), ("fail", "caught"), ("fail", "try"), ("draw", "done", "caught", "try")),
     "fail done\nfail caught\nfail try\ndraw done caught try\n"),
    ((("try", (("note", "done"), ("note", "caught")), ("done", "caught", "try", "all"), (("set", "caught", 1),)),),
     "try\nnote done\nnote caught\ncaught done caught try all\nset caught 1\ndone\n"),
]


def tries_text(many, first=True):
    if first:
        return "try\n" * many + "set x 1\n" + "caught\ndone\n" * many
    return "try\ncaught\n" * many + "set x 1\n" + "done\n" * many


def kinds_of(thing):
    """The thing's kind, and those of all things within it."""
    if isinstance(thing, tuple):
        return (type(thing), [kinds_of(part) for part in thing])
    return type(thing)


class TextsCase(unittest.TestCase):
    def refused(self, text):
        with self.assertRaises(NoText, msg=repr(text)):
            read_body(text)


class TestWritten(TextsCase):
    def test_each_written_and_read(self):
        for body, text in WRITTEN:
            self.assertEqual(body_text(body), text)
            self.assertEqual(read_body(text), body)

    def test_what_is_read_is_the_very_body(self):
        for body, text in WRITTEN:
            self.assertEqual(kinds_of(read_body(text)), kinds_of(body))
            self.assertIs(is_body(read_body(text)), True)

    def test_by_turns_and_once_more_behind_others(self):
        told = [(body_text(body), read_body(text)) for body, text in WRITTEN]
        again = [(body_text(body), read_body(text)) for body, text in reversed(WRITTEN)]
        self.assertEqual(again, list(reversed(told)))
        for body, text in WRITTEN:
            self.refused(text + "x")
            self.assertEqual(read_body(body_text(read_body(text))), body)

    def test_bodies_one_behind_the_other(self):
        for (body, text), (other, more) in itertools.product(WRITTEN, repeat=2):
            self.assertEqual(body_text(body + other), text + more)
            self.assertEqual(read_body(text + more), body + other)

    def test_each_within_a_try(self):
        for body, text in WRITTEN:
            for first, last in ((body, ()), ((), body), (body, body)):
                row = ("try", first, ("ALL", "a"), last)
                told = "try\n" + body_text(first) + "caught ALL a\n" + body_text(last) + "done\n"
                self.assertEqual(body_text((row,)), told)
                if is_body((row,)):
                    self.assertEqual(read_body(told), (row,))
                else:
                    self.refused(told)

    def test_three_tries_one_within_another(self):
        for first in (True, False):
            for many in (1, 2, 3):
                self.assertEqual(body_text(tries(many, first)), tries_text(many, first))
                self.assertEqual(read_body(tries_text(many, first)), tries(many, first))
        mixed = tries(1, True, tries(1, False, tries(1, True)))
        self.assertEqual(read_body(body_text(mixed)), mixed)
        mixed = tries(1, False, tries(1, True, tries(1, False)))
        self.assertEqual(read_body(body_text(mixed)), mixed)

    def test_forty_rows(self):
        for body in ((LINE,) * 40, (("try", (LINE,) * 20, (), (LINE,) * 19),), (("try", (), (), ()),) * 40):
            self.assertEqual(read_body(body_text(body)), body)

    def test_many_numbers(self):
        for number in list(range(-120, 121)) + [10 ** at for at in range(60)] + [-(10 ** at) for at in range(60)]:
            text = f"set x {number}\n"
            self.assertEqual(body_text((("set", "x", number),)), text)
            self.assertEqual(read_body(text), (("set", "x", number),))


class TestRefused(TextsCase):
    def test_things_that_are_no_texts(self):
        for thing in no_texts() + [b"set x 1\n", ["set x 1\n"], ("set x 1\n",), LINE, (LINE,), b"\n"]:
            self.refused(thing)

    def test_a_missing_last_line_feed(self):
        for body, text in WRITTEN:
            if text:
                self.refused(text[:-1])

    def test_a_line_more(self):
        for line in ("\n", " \n", "x\n", "done\n", "caught\n", "caught ALL\n", "caught a\n", "set\n", "set x\n", "try\n"):
            self.refused(line)
            for body, text in WRITTEN:
                lines = text.splitlines(keepends=True)
                for at in range(len(lines) + 1):
                    self.refused("".join(lines[:at] + [line] + lines[at:]))

    def test_a_line_less(self):
        for body, text in WRITTEN:
            lines = text.splitlines(keepends=True)
            for at, line in enumerate(lines):
                if line.split()[0] in ("try", "done") or line.startswith("caught"):
                    self.refused("".join(lines[:at] + lines[at + 1:]))

    def test_blanks_tabs_and_carriage_returns(self):
        for body, text in WRITTEN:
            for at, sign in enumerate(text):
                if sign == " ":
                    for other in ("", "  ", "\t", " \t", "\t ", "\n", "\r", "\u00a0", "\v"):
                        self.refused_or_other_body(text[:at] + other + text[at + 1:], body)
                if sign == "\n":
                    for other in (" \n", "\n ", "\t\n", "\n\t", "\r\n", "\r", "\n\r", "\n\n", "\f", "\v", "\u2028"):
                        self.refused(text[:at] + other + text[at + 1:])
            if text:
                for ahead in (" ", "\t", "\n", "\r"):
                    self.refused(ahead + text)

    def refused_or_other_body(self, text, body):
        """No text is read but as its own body, and never as this one."""
        try:
            other = read_body(text)
        except NoText:
            return
        self.assertNotEqual(other, body)
        self.assertEqual(body_text(other), text)

    def test_numbers(self):
        for figures in ("+1", "-0", "+0", "01", "-01", "00", "000", "1_0", "-", "+", "--1", "-+1", "1-", "1.0", "1.", ".1",
                        "1e3", "0x1", "0b1", "0o1", "x", "", "1 ", " 1", "- 1", "1,000", "1L", "True", "None", "_1", "1_",
                        "1\t", "1\r", "\t1", "1\v", "\u0661", "-\u0661", "\uff11", "\u00b2", "\u00bd", "1\u0661", "\u0967",
                        "\u22121", "\u20131", "NaN", "inf", "1\0", "\ud800", "0" * 60, "0" * 59 + "1"):
            self.refused(f"set x {figures}\n")
            self.refused(f"try\nset x {figures}\ncaught\ndone\n")
            self.refused(f"try\ncaught\nset x {figures}\ndone\n")

    def test_words_that_are_none(self):
        for line in ("x", "bind x 1", "Set x 1", "SET x 1", "sets x 1", "se x 1", "Try", "TRY", "tryx", "name", "number",
                     "path", "ALL", "HALF", "#", "-", "set,x,1", "('set','x',1)", "None"):
            self.refused(line + "\n")
            self.refused("set x 1\n" + line + "\n")
            self.refused(f"try\n{line}\ncaught\ndone\n")

    def test_a_part_less_or_more(self):
        for body, text in WRITTEN:
            if len(body) != 1 or body[0][0] == "try":
                continue
            words = text[:-1].split(" ")
            for at in range(len(words)):
                self.refused(" ".join(words[:at] + words[at + 1:]) + "\n")
            for part in ("x", "1", "a.b", "set"):
                for at in range(len(words) + 1):
                    self.refused(" ".join(words[:at] + [part] + words[at:]) + "\n")

    def test_parts_that_are_no_names_or_paths(self):
        for wrong in ("X", "1", "-1", "x1", "abcdefghi", "x-y", "", ".", "x.", ".x", "x..y", "a.b.c.d.e") + tuple(FOREIGN_SIGNS):
            for line in ("set {} 1", "now {} y", "now x {}", "take {} y", "take x {}", "draw {} y z", "draw x {} z",
                         "draw x y {}", "late {} y", "late x {}", "ask {} y", "ask x {}", "note {}", "fail {}"):
                self.refused(line.replace("{}", wrong) + "\n")
        for line in ("set a.b 1", "now a.b c", "take a.b c", "draw a.b c d", "draw a b c.d", "late a.b c", "ask a.b c",
                     "fail a.b"):
            self.refused(line + "\n")

    def test_tries_that_are_not_whole(self):
        for text in ("try\n", "caught\n", "done\n", "try\ncaught\n", "try\ndone\n", "caught\ndone\n", "try\ntry\ncaught\ndone\n",
                     "try\ncaught\ndone\ndone\n", "try\ncaught\ncaught\ndone\n", "try\ncaught a\ncaught b\ndone\n",
                     "try\nset x 1\ncaught ALL\nset x 1\ncaught HALF\ndone\n", "done\ncaught\ntry\n", "caught\ntry\ndone\n",
                     "try\ndone\ncaught\n", "set x 1\ndone\n", "set x 1\ncaught\n", "set x 1\ncaught\ndone\n",
                     "set x 1\ncaught ALL\nset y 2\n", "try\nset x 1\n", "try\nset x 1\ndone\n", "try\nset x 1\ncaught\n",
                     "try\ncaught\nset x 1\n", "try\ncaught\ndone\ncaught\ndone\n", "try\n\ncaught\ndone\n",
                     "try\ncaught\n\ndone\n", "\ntry\ncaught\ndone\n", "try\ntry\ncaught\ncaught\ndone\ndone\n",
                     "try\ncaught\ntry\ndone\ndone\n", "try\ncaught\ndone", "try\ncaught", "try"):
            self.refused(text)

    def test_words_behind_try_and_done(self):
        for text in ("try x\ncaught\ndone\n", "try ALL\ncaught\ndone\n", "try\ncaught\ndone x\n", "try\ncaught\ndone ALL\n",
                     "try \ncaught\ndone\n", "try\ncaught\ndone \n", "try\ncaught \ndone\n", "try\ncaught  ALL\ndone\n",
                     "try\ncaught ALL \ndone\n", "try\n caught\ndone\n", "try\ncaughtALL\ndone\n", "try\nCaught\ndone\n",
                     "try\ncaught\nDone\n", "try\ncaught\tALL\ndone\n", "try\ncaught\ndone\n\n"):
            self.refused(text)

    def test_words_of_a_try(self):
        for words in ("a a", "ALL ALL", "a b a", "HALF ALL HALF", "All", "HALFS", "A", "a.b", "1", "-1", "abcdefghi", "NOTEXT"):
            self.refused(f"try\ncaught {words}\ndone\n")
            self.refused(f"try\nset x 1\ncaught {words}\nset x 1\ndone\n")
            self.refused(f"try\ntry\ncaught {words}\ndone\ncaught\ndone\n")

    def test_forty_one_rows(self):
        for body in ((LINE,) * 41, (("try", (LINE,) * 20, (), (LINE,) * 20),), (("try", (), (), ()),) * 41,
                     (LINE,) * 2 + (("try", (LINE,) * 38, (), ()),)):
            self.refused(body_text(body))

    def test_four_tries_one_within_another_and_fifty(self):
        for first in (True, False):
            for many in (4, 5, 50):
                self.refused(tries_text(many, first))
                self.refused("set x 1\n" + tries_text(many, first))
        self.refused(body_text(tries(1, True, tries(3, False))))
        self.refused(body_text(tries(1, False, tries(3, True))))
        self.refused("try\n" * 50)
        self.refused("try\ncaught\n" * 50)
        self.refused("done\n" * 50)

    def test_so_many_tries_that_no_call_could_follow_them(self):
        for many in (1000, 20000):
            self.refused("try\n" * many)
            self.refused("try\ncaught\n" * many)
            self.refused(tries_text(many))
            self.refused(tries_text(many, False))

    def test_tries_beside_one_another_are_not_one_within_another(self):
        body = tries(3) + tries(3, False) + tries(3)
        self.assertEqual(read_body(body_text(body)), body)
        within = (("try", tries(2), (), tries(2, False)),)
        self.assertEqual(read_body(body_text(within)), within)
        self.refused(body_text((("try", tries(2), (), tries(3)),)))

    def test_no_sign_put_in_is_overlooked(self):
        signs = "\t\n\r -+_.0aA~" + "\u0661\u00e9"
        for body, text in WRITTEN:
            if len(text) > 60:
                continue
            for sign in signs:
                for other in with_sign_at_each_place(text, sign):
                    if other != text:
                        self.refused_or_other_body(other, body)


class TestLikeRows(TextsCase):
    """Just the texts of bodies are read: all short texts of these lines, one by one."""

    def test_all_texts_of_few_lines(self):
        lines = ("try", "caught", "caught a", "done", "set x 1", "")
        bodies = {body_text(body) for body in short_bodies()}
        for many in range(6):
            for chosen in itertools.product(lines, repeat=many):
                text = "".join(line + "\n" for line in chosen)
                if text in bodies:
                    self.assertEqual(body_text(read_body(text)), text)
                else:
                    self.refused(text)


def short_bodies(lines=5):
    """All bodies of set rows and tries that are written in so many lines at most."""
    bodies = {()}
    rows = {1: [LINE]}
    for size in range(3, lines + 1):
        rows[size] = [("try", first, words, last)
                      for first, last in itertools.product(list(bodies), repeat=2)
                      if lines_of(first) + lines_of(last) + 3 == size
                      for words in ((), ("a",))]
        bodies = bodies_of(rows, size)
    return bodies


def bodies_of(rows, lines):
    bodies = {()}
    while True:
        more = {body + (row,) for body in bodies for size in rows for row in rows[size]
                if lines_of(body) + size <= lines}
        if more <= bodies:
            return bodies
        bodies |= more


def lines_of(body):
    return body_text(body).count("\n")


if __name__ == "__main__":
    unittest.main()

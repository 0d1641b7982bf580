import itertools
import string
import unittest

from halfmade.paths import beginnings, is_name, is_path, parent
from tests.things_at_hand import FOREIGN_SIGNS, no_texts, with_sign_at_each_place


class TestIsName(unittest.TestCase):
    def test_each_letter_alone(self):
        for letter in string.ascii_lowercase:
            self.assertIs(is_name(letter), True, letter)

    def test_one_to_eight_letters(self):
        for many in range(1, 9):
            self.assertIs(is_name("z" * many), True, many)
        self.assertIs(is_name("abcdefgh"), True)

    def test_none_nine_and_more(self):
        for text in ("", "abcdefghi", "z" * 9, "a" * 16, "a" * 4000):
            self.assertIs(is_name(text), False, text)

    def test_foreign_signs_at_each_place(self):
        for sign in FOREIGN_SIGNS + ["."]:
            for name in ("", "a", "ab", "abcdefg", "abcdefgh"):
                for text in with_sign_at_each_place(name, sign):
                    self.assertIs(is_name(text), False, repr(text))

    def test_each_single_sign(self):
        for number in range(0x500):
            sign = chr(number)
            self.assertIs(is_name(sign), sign in string.ascii_lowercase, repr(sign))

    def test_line_feed_as_the_last_sign(self):
        for text in ("a\n", "abcdefg\n", "abcdefgh\n", "\n"):
            self.assertIs(is_name(text), False, repr(text))

    def test_no_texts(self):
        for thing in no_texts():
            self.assertIs(is_name(thing), False, type(thing))


class TestIsPath(unittest.TestCase):
    def test_one_to_four_names(self):
        for path in ("a", "a.b", "a.b.c", "a.b.c.d", "a.a.a.a", "abcdefgh.abcdefgh.abcdefgh.abcdefgh"):
            self.assertIs(is_path(path), True, path)

    def test_no_name_and_five(self):
        for text in ("", "a.b.c.d.e", "a.a.a.a.a", ".".join("abcdefgh")):
            self.assertIs(is_path(text), False, text)

    def test_empty_name_at_each_place(self):
        for many in range(1, 5):
            for names in itertools.product(["a", ""], repeat=many):
                path = ".".join(names)
                self.assertIs(is_path(path), "" not in names, repr(path))

    def test_name_too_long_at_each_place(self):
        for many in range(1, 5):
            for at in range(many):
                names = ["abcdefgh"] * many
                names[at] = "abcdefghi"
                self.assertIs(is_path(".".join(names)), False, names)

    def test_foreign_signs_at_each_place(self):
        for sign in FOREIGN_SIGNS:
            for path in ("", "a", "a.b", "ab.cd", "a.b.c.d", "abcdefgh.abcdefgh"):
                for text in with_sign_at_each_place(path, sign):
                    self.assertIs(is_path(text), False, repr(text))

    def test_line_feed_as_the_last_sign(self):
        for path in ("a\n", "a.b\n", "a.b.c.d\n", "a.\n", "a\n.b"):
            self.assertIs(is_path(path), False, repr(path))

    def test_no_texts(self):
        for thing in no_texts():
            self.assertIs(is_path(thing), False, type(thing))


class TestBeginnings(unittest.TestCase):
    def test_in_their_order_itself_the_last(self):
        self.assertEqual(beginnings("a"), ["a"])
        self.assertEqual(beginnings("a.b"), ["a", "a.b"])
        self.assertEqual(beginnings("zz.y.xx"), ["zz", "zz.y", "zz.y.xx"])
        self.assertEqual(beginnings("a.a.a.a"), ["a", "a.a", "a.a.a", "a.a.a.a"])

    def test_it_is_a_list_of_paths(self):
        told = beginnings("abcdefgh.b.cd.e")
        self.assertIsInstance(told, list)
        for path in told:
            self.assertIs(is_path(path), True, path)

    def test_the_told_list_is_the_askers_own(self):
        path = "a.b.c"
        told = beginnings(path)
        told.reverse()
        told.append("d")
        self.assertEqual(beginnings(path), ["a", "a.b", "a.b.c"])
        self.assertEqual(path, "a.b.c")


class TestParent(unittest.TestCase):
    def test_none_for_one_name(self):
        for path in ("a", "abcdefgh"):
            self.assertIsNone(parent(path))

    def test_two_names_and_more(self):
        self.assertEqual(parent("a.b"), "a")
        self.assertEqual(parent("aa.b.cc"), "aa.b")
        self.assertEqual(parent("a.b.c.d"), "a.b.c")
        self.assertEqual(parent("a.a.a.a"), "a.a.a")

    def test_it_is_the_beginning_ahead_of_the_path(self):
        for path in ("a.b", "a.b.c", "a.b.c.d"):
            self.assertEqual(parent(path), beginnings(path)[-2])


class TestToldAlike(unittest.TestCase):
    def test_the_same_asked_twice(self):
        for path in ("a", "a.b", "a.b.c.d", "a..b", "A", ""):
            self.assertEqual(is_name(path), is_name(path))
            self.assertEqual(is_path(path), is_path(path))
        for path in ("a", "a.b", "a.b.c.d"):
            self.assertEqual(beginnings(path), beginnings(path))
            self.assertEqual(parent(path), parent(path))

    def test_what_is_handed_in_stays(self):
        handed = ["a", ["b"]]
        mapping = {"a": ["b"]}
        for asked in (is_name, is_path):
            asked(handed)
            asked(mapping)
        self.assertEqual(handed, ["a", ["b"]])
        self.assertEqual(mapping, {"a": ["b"]})


if __name__ == "__main__":
    unittest.main()

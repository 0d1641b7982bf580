import copy
import unittest

from halfmade.rows import bound_by, counted, is_body, is_row
from tests.things_at_hand import FOREIGN_SIGNS, LINE, SIXTY, Sour, no_texts, no_tuples, tries

WORDS = ["NOMODULE", "NONAME", "HALF", "FLAT", "NOTASK", "ALL"]

# One right row for each word but try, with what each part is.
SIMPLE = {
    ("set", "x", 1): ("name", "number"),
    ("now", "x", "y.z"): ("name", "path"),
    ("take", "x", "a.b.c.d"): ("name", "path"),
    ("draw", "x", "a.b", "y"): ("name", "path", "name"),
    ("late", "x", "y.z"): ("name", "path"),
    ("ask", "x", "y"): ("name", "path"),
    ("note", "a.b"): ("path",),
    ("fail", "stop"): ("name",),
}
TRY = ("try", (LINE,), ("HALF",), (("note", "a"),))


def wrong_parts(kind):
    """Things that are not of this kind."""
    if kind == "number":
        return [None, True, False, "1", "", "x", b"1", 1.0, [1], (1,), {1: 1}, {}, object(), Sour()]
    signs = FOREIGN_SIGNS + ["x" + sign for sign in FOREIGN_SIGNS]
    wrong = no_texts() + signs + ["", ".", "x.", ".x", "x..y", "abcdefghi"]
    if kind == "name":
        return wrong + ["x.y"]
    return wrong + ["a.b.c.d.e"]


def lists_for_tuples(thing):
    """All things that are this one with just one of its tuples, at any depth, made a list."""
    if not isinstance(thing, tuple):
        return []
    made = [list(thing)]
    for at, part in enumerate(thing):
        made.extend(thing[:at] + (other,) + thing[at + 1:] for other in lists_for_tuples(part))
    return made


class RowsCase(unittest.TestCase):
    def row(self, thing, truth):
        """A row alone is told as the body of it alone is."""
        self.assertIs(is_row(thing), truth, thing)
        self.assertIs(is_body((thing,)), truth, thing)


class TestSimpleRows(RowsCase):
    def test_each_right(self):
        for row in SIMPLE:
            self.row(row, True)

    def test_a_part_less(self):
        for row in SIMPLE:
            for at in range(len(row)):
                self.row(row[:at] + row[at + 1:], False)
            self.row(row[:1], False)

    def test_a_part_more(self):
        for row in SIMPLE:
            for part in ("x", "a.b", 1, None, (), LINE):
                for at in range(len(row) + 1):
                    self.row(row[:at] + (part,) + row[at:], False)

    def test_another_kind_of_thing_for_each_part(self):
        for row, kinds in SIMPLE.items():
            for at, kind in enumerate(kinds, start=1):
                for wrong in wrong_parts(kind):
                    self.row(row[:at] + (wrong,) + row[at + 1:], False)

    def test_names_and_paths_at_their_edges(self):
        for name in ("a", "z", "abcdefgh"):
            for path in ("a", "abcdefgh.abcdefgh.abcdefgh.abcdefgh"):
                for row in (("now", name, path), ("take", name, path), ("late", name, path), ("ask", name, path)):
                    self.row(row, True)
                self.row(("draw", name, path, name), True)
                self.row(("note", path), True)
            self.row(("fail", name), True)

    def test_a_path_is_no_name(self):
        for row in (("set", "a.b", 1), ("now", "a.b", "c"), ("take", "a.b", "c"), ("draw", "a.b", "c", "d"),
                    ("draw", "a", "c", "d.e"), ("late", "a.b", "c"), ("ask", "a.b", "c"), ("fail", "a.b")):
            self.row(row, False)

    def test_names_may_be_words_of_rows(self):
        self.row(("set", "set", 1), True)
        self.row(("take", "try", "draw.done"), True)
        self.row(("fail", "caught"), True)


class TestNumbers(RowsCase):
    def test_whole_numbers(self):
        for number in (0, 1, -1, 7, -40, SIXTY, -SIXTY, 10 ** 59):
            self.row(("set", "x", number), True)

    def test_true_and_false_are_none(self):
        for number in (True, False):
            self.row(("set", "x", number), False)
            self.row(("try", (("set", "x", number),), (), ()), False)

    def test_other_things_are_none(self):
        for thing in (None, "1", b"1", 1.0, 0.0, 1j, (1,), [1]):
            self.row(("set", "x", thing), False)


class TestOtherThings(RowsCase):
    def test_unknown_words(self):
        for word in ("", "Set", "SET", "sets", "se", "set ", " set", "set\n", "bind", "done", "caught", "x", "name",
                     "number", "path", "HALF", "Try", "TRY", "try ", "tries"):
            for row in list(SIMPLE) + [TRY]:
                self.row((word,) + row[1:], False)
            self.row((word,), False)

    def test_words_that_are_no_texts(self):
        for word in no_texts():
            for row in list(SIMPLE) + [TRY]:
                self.row((word,) + row[1:], False)
            self.row((word,), False)

    def test_no_tuples(self):
        for thing in no_texts() + ["", "set", "set x 1", "abc"]:
            self.row(thing, False)

    def test_lists_for_tuples_in_rows(self):
        deep = ("try", (LINE, TRY), ("a", "ALL"), (TRY, ("try", (), (), (TRY,))))
        self.row(deep, True)
        for row in list(SIMPLE) + [TRY, deep]:
            for thing in lists_for_tuples(row):
                self.row(thing, False)

    def test_lists_for_tuples_in_bodies(self):
        body = (LINE, TRY, ("try", (TRY,), (), (TRY, LINE)))
        self.assertIs(is_body(body), True)
        for thing in lists_for_tuples(body) + [[]]:
            self.assertIs(is_body(thing), False, thing)


class TestTries(RowsCase):
    def test_rows_and_words_may_be_empty(self):
        for first in ((), (LINE,)):
            for words in ((), ("ALL",)):
                for last in ((), (LINE,)):
                    self.row(("try", first, words, last), True)

    def test_a_part_less_or_more(self):
        self.row(("try",), False)
        self.row(("try", (), ()), False)
        self.row(("try", (LINE,), ("ALL",)), False)
        self.row(("try", (), (), (), ()), False)
        self.row(TRY + (None,), False)

    def test_another_kind_of_thing_for_each_part(self):
        for at in (1, 2, 3):
            for thing in no_tuples() + ["", "a", "ALL", LINE, (None,), ((),)]:
                self.row(TRY[:at] + (thing,) + TRY[at + 1:], False)
        self.row(("try", ("a",), (), ()), False)
        self.row(("try", (), (LINE,), ()), False)
        self.row(("try", (), (), ("ALL",)), False)

    def test_each_word(self):
        for word in WORDS + ["a", "half", "all", "abcdefgh"]:
            self.row(("try", (), (word,), ()), True)
        self.row(("try", (), tuple(WORDS), ()), True)
        self.row(("try", (), tuple(WORDS) + ("all", "half", "x"), ()), True)

    def test_a_word_twice(self):
        for word in WORDS + ["a", "abcdefgh"]:
            self.row(("try", (), (word, word), ()), False)
            self.row(("try", (), (word, "other", word), ()), False)

    def test_no_words(self):
        wrong = no_texts() + ["", "All", "Half", "HALFS", "HAL", "NOSUCH", "ALL ", "ALL\n", "a.b", "a b", "A",
                              "abcdefghi", "a\n", "NOTEXT"]
        for word in wrong:
            self.row(("try", (), (word,), ()), False)
            self.row(("try", (), ("ALL", word), ()), False)

    def test_words_that_are_no_tuple(self):
        for words in ([], ["ALL"], "ALL", "a", {"ALL"}, {"ALL": 1}, None, 0):
            self.row(("try", (), words, ()), False)

    def test_three_within_one_another_and_four(self):
        for first in (True, False):
            for many in (1, 2, 3):
                self.assertIs(is_body(tries(many, first)), True)
                self.row(tries(many, first)[0], True)
            for many in (4, 5, 50):
                self.assertIs(is_body(tries(many, first)), False)
                self.row(tries(many, first)[0], False)

    def test_four_by_first_and_last_rows_in_turn(self):
        for outer in (True, False):
            inner = tries(1, not outer, tries(1, outer, tries(1, not outer)))
            self.assertIs(is_body(inner), True)
            self.assertIs(is_body(tries(1, outer, inner)), False)

    def test_many_tries_beside_one_another(self):
        self.assertIs(is_body(tries(3) * 5 + tries(3, False) * 5), True)

    def test_depth_is_not_carried_on_behind_a_try(self):
        three = tries(3)
        self.row(("try", tries(2), (), tries(2, False)), True)
        self.row(("try", tries(2), (), three), False)
        self.row(("try", three, (), ()), False)
        self.assertIs(is_body(three + three), True)

    def test_a_row_within_that_is_none(self):
        for wrong in (None, "set", (), ("set",), ("set", "x", True), ["set", "x", 1], ("try", (), ()), Sour()):
            for rows in ((wrong,), (LINE, wrong), (wrong, LINE), tries(1, rows=(wrong,)), tries(2, rows=(wrong,))):
                self.row(("try", rows, (), ()), False)
                self.row(("try", (), (), rows), False)
                self.row(("try", rows, ("ALL",), (LINE,)), False)


class TestBodies(RowsCase):
    def test_empty(self):
        self.assertIs(is_body(()), True)

    def test_each_row_and_all_together(self):
        self.assertIs(is_body(tuple(SIMPLE) + (TRY,)), True)

    def test_a_row_that_is_none_at_each_place(self):
        rows = tuple(SIMPLE) + (TRY,)
        for at in range(len(rows) + 1):
            for wrong in (None, (), ("set", "x"), ("stop", "x"), list(LINE)):
                self.assertIs(is_body(rows[:at] + (wrong,) + rows[at:]), False, at)

    def test_a_row_is_no_body_and_a_body_no_row(self):
        for row in list(SIMPLE) + [TRY]:
            self.assertIs(is_body(row), False, row)
            self.assertIs(is_row((row,)), False, row)
        self.assertIs(is_row(()), False)

    def test_other_things(self):
        for thing in no_tuples() + ["", "set x 1\n", ("a",), ((),), (None,)]:
            self.assertIs(is_body(thing), False, type(thing))

    def test_forty_rows(self):
        for many, truth in ((39, True), (40, True), (41, False), (42, False), (400, False)):
            self.assertIs(is_body((LINE,) * many), truth, many)

    def test_forty_with_rows_within_tries(self):
        for many, truth in ((39, True), (40, True), (41, False)):
            within = many - 10
            for body in (
                (("try", (LINE,) * within, (), ()),) + (LINE,) * 9,
                (LINE,) * 9 + (("try", (), (), (LINE,) * within),),
                (LINE,) * 4 + (("try", (LINE,) * 9, ("ALL",), (LINE,) * (within - 9)),) + (LINE,) * 5,
                (LINE,) * 7 + tries(3, rows=(LINE,) * within),
                (LINE,) * 7 + tries(3, False, rows=(LINE,) * within),
            ):
                self.assertEqual(counted(body), many)
                self.assertIs(is_body(body), truth, many)

    def test_forty_tries(self):
        for many, truth in ((39, True), (40, True), (41, False)):
            self.assertIs(is_body((("try", (), (), ()),) * many), truth, many)

    def test_a_row_alone_with_more_than_forty(self):
        for within, truth in ((38, True), (39, True), (40, False), (41, False)):
            self.row(("try", (LINE,) * within, (), ()), truth)
            self.row(("try", (), (), (LINE,) * within), truth)
            self.row(("try", (LINE,) * 20, (), (LINE,) * (within - 20)), truth)
            self.row(tries(1, rows=tries(1, rows=(LINE,) * (within - 1)))[0], truth)

    def test_a_full_row_stands_alone_only(self):
        full = ("try", (LINE,) * 39, (), ())
        self.assertIs(is_row(full), True)
        self.assertIs(is_body((full, LINE)), False)
        self.assertIs(is_body((LINE, full)), False)

    def test_a_vast_thing_is_told_of(self):
        wide = (LINE,) * 1000
        for level in range(3):
            wide = (("try", wide, (), wide),) * 1000
        self.assertIs(is_body(wide), False)
        self.assertIs(is_row(wide[0]), False)


class TestBoundBy(unittest.TestCase):
    def test_the_first_six_bind_their_first_name(self):
        for row in SIMPLE:
            self.assertEqual(bound_by(row), None if row[0] in ("note", "fail") else "x", row)
        self.assertEqual(bound_by(("draw", "a", "b", "c")), "a")
        self.assertEqual(bound_by(("take", "set", "try")), "set")

    def test_a_try_binds_none(self):
        self.assertIsNone(bound_by(TRY))
        self.assertIsNone(bound_by(("try", (), (), ())))


class TestCounted(unittest.TestCase):
    def test_none(self):
        self.assertEqual(counted(()), 0)

    def test_each_row_alone(self):
        for row in SIMPLE:
            self.assertEqual(counted((row,)), 1, row)
        self.assertEqual(counted((("try", (), (), ()),)), 1)
        self.assertEqual(counted((("try", (), ("a", "ALL"), ()),)), 1)
        self.assertEqual(counted((TRY,)), 3)

    def test_rows_within_tries(self):
        self.assertEqual(counted(tuple(SIMPLE)), 8)
        self.assertEqual(counted((LINE, ("try", (LINE, LINE), (), (LINE,)), LINE)), 6)
        self.assertEqual(counted(tries(3)), 4)
        self.assertEqual(counted(tries(3, False)), 4)
        self.assertEqual(counted((("try", (TRY, LINE), (), (TRY, TRY)),)), 11)

    def test_somewhat_beyond_the_limits(self):
        self.assertEqual(counted((LINE,) * 40), 40)
        self.assertEqual(counted((LINE,) * 41), 41)
        self.assertEqual(counted((("try", (LINE,) * 41, (), (LINE,) * 2),)), 44)
        self.assertEqual(counted(tries(4)), 5)


class TestHandedIn(unittest.TestCase):
    def test_what_is_handed_in_stays(self):
        handed = [["set", "x", 1], ("try", [LINE], ["ALL"], [("set", "x", [1])])]
        as_it_was = copy.deepcopy(handed)
        for thing in (handed, handed[1], (handed[1],), tuple(handed)):
            is_row(thing)
            is_body(thing)
        self.assertEqual(handed, as_it_was)
        body = tuple(SIMPLE) + (TRY,)
        is_body(body)
        counted(body)
        bound_by(body[0])
        self.assertEqual(body, tuple(SIMPLE) + (TRY,))

    def test_the_same_asked_twice_is_told_alike(self):
        for thing in [(), LINE, TRY, (LINE,), (TRY,), (LINE,) * 40, (LINE,) * 41, None, [LINE], tries(3), tries(4)]:
            self.assertEqual(is_row(thing), is_row(thing))
            self.assertEqual(is_body(thing), is_body(thing))
        for body in ((), (LINE,), (TRY, TRY), tries(3)):
            self.assertEqual(counted(body), counted(body))
            self.assertEqual([bound_by(row) for row in body], [bound_by(row) for row in body])


if __name__ == "__main__":
    unittest.main()

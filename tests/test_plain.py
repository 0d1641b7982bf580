"""Plain stocks, what their names reach, and their knots."""

import copy
import unittest

from halfmade.errors import NoStock
from halfmade.plain import is_plain, knots, reach
from tests.houses_at_hand import Dice
from tests.stocks_at_hand import (
    ALONE, FIT_RING, SIXTEEN, SNARED_RING, aims, bodies_of, is_plain_by_words, no_plain_stocks, small_stocks, thrown_stock,
)
from tests.things_at_hand import LINE


def stock_of(**aimed):
    """A stock in which each name takes those that its text has, one after the other."""
    return {name: tuple(("take", "t", other) for other in others) for name, others in aimed.items()}


class TestIsPlain(unittest.TestCase):
    def test_plain_ones(self):
        for stock in ({}, {"a": ()}, ALONE, FIT_RING, SNARED_RING, {"abcdefgh": (("take", "abcdefgh", "abcdefgh"),)},
                      {"a": (("late", "f", "no.such.name.here"),)}, {"a": (("draw", "x", "a", "x"),)},
                      {"a": (("draw", "y", "b", "z"),), "b": (("take", "z", "a"),)}, {"a": (("draw", "y", "b", "z"),), "b": (("late", "z", "q"),)},
                      {"a": (("draw", "y", "a", "x"), LINE)}, {"a": (LINE,) * 40}):
            self.assertIs(is_plain(stock), True, stock)

    def test_of_one_to_sixteen_names(self):
        for many in range(1, 17):
            names = SIXTEEN[:many]
            stock = {name: (LINE, ("take", "t", names[at - 1]), ("draw", "y", names[-at], "x")) for at, name in enumerate(names)}
            self.assertIs(is_plain(stock), True)
            stock[names[0]] += (("take", "t", "zz"),)
            self.assertIs(is_plain(stock), False)

    def test_each_way_in_which_a_thing_is_none(self):
        for thing in no_plain_stocks():
            self.assertIs(is_plain(thing), False, thing)

    def test_all_small_ones(self):
        rows = [LINE, ("late", "y", "x"), ("take", "x", "a"), ("take", "y", "b"), ("draw", "y", "a", "x"), ("draw", "x", "b", "y"), ("draw", "y", "c", "x")]
        for one in bodies_of(rows, 2):
            for other in bodies_of(rows, 1):
                stock = {"a": one, "b": other}
                self.assertIs(is_plain(stock), is_plain_by_words(stock), stock)

    def test_it_stays_as_it_was(self):
        for thing in (FIT_RING, {"a": (("take", "x", "b"),)}):
            ahead = copy.deepcopy(thing)
            is_plain(thing)
            self.assertEqual(thing, ahead)


class TestReach(unittest.TestCase):
    def test_none_itself_and_others(self):
        self.assertEqual(reach({"a": ()}, "a"), [])
        self.assertEqual(reach({"a": (LINE, ("late", "f", "a.b")), "b": ()}, "a"), [])
        self.assertEqual(reach({"a": (("take", "t", "a"),)}, "a"), ["a"])
        self.assertEqual(reach({"a": (("draw", "x", "a", "x"),)}, "a"), ["a"])
        self.assertEqual(reach(stock_of(a="b", b=""), "a"), ["b"])
        self.assertEqual(reach(stock_of(a="b", b=""), "b"), [])

    def test_in_a_row_and_in_a_ring(self):
        row = stock_of(d="c", c="b", b="a", a="")
        self.assertEqual([reach(row, name) for name in "abcd"], [[], ["a"], ["a", "b"], ["a", "b", "c"]])
        ring = stock_of(d="c", c="b", b="a", a="d")
        for name in "abcd":
            self.assertEqual(reach(ring, name), ["a", "b", "c", "d"])

    def test_by_draws_as_by_takes(self):
        stock = {"a": (("draw", "y", "b", "x"),), "b": (LINE, ("take", "t", "c")), "c": (("draw", "y", "b", "x"),)}
        self.assertEqual([reach(stock, name) for name in "abc"], [["b", "c"], ["b", "c"], ["b", "c"]])

    def test_sixteen_in_a_row(self):
        stock = {name: (("take", "t", other),) for name, other in zip(SIXTEEN, SIXTEEN[1:])}
        stock["p"] = ()
        self.assertEqual(reach(stock, "a"), list(SIXTEEN[1:]))
        self.assertEqual(reach(stock, "o"), ["p"])

    def test_sorted_and_each_once(self):
        stock = stock_of(m="zbazzab", z="b", b="", a="zb")
        self.assertEqual(reach(stock, "m"), ["a", "b", "z"])


class TestKnots(unittest.TestCase):
    def test_none(self):
        for stock in ({}, {"a": ()}, stock_of(a="b", b=""), stock_of(a="bc", b="c", c="")):
            self.assertEqual(knots(stock), [])

    def test_of_one(self):
        self.assertEqual(knots(stock_of(a="a", b="ab")), [("a",), ("b",)])
        self.assertEqual(knots(stock_of(a="a", b="a")), [("a",)])

    def test_rings(self):
        self.assertEqual(knots(stock_of(b="a", a="b")), [("a", "b")])
        self.assertEqual(knots(stock_of(d="c", c="b", b="a", a="d")), [("a", "b", "c", "d")])

    def test_two_rings_that_share_a_name_are_one(self):
        self.assertEqual(knots(stock_of(a="b", b="ac", c="b")), [("a", "b", "c")])

    def test_two_rings_of_which_one_reaches_the_other(self):
        self.assertEqual(knots(stock_of(d="c", c="da", b="a", a="b", e="d", f="")), [("a", "b"), ("c", "d")])

    def test_sorted(self):
        self.assertEqual(knots(stock_of(z="y", y="z", c="a", a="c", b="b")), [("a", "c"), ("b",), ("y", "z")])

    def test_kinds(self):
        told = knots(stock_of(b="a", a="b"))
        self.assertEqual([type(told), type(told[0])], [list, tuple])


class TestMany(unittest.TestCase):
    def reached_by_words(self, stock):
        """By walking ahead as many rows as there are names."""
        reached = {name: set(aims(stock[name])) for name in stock}
        for turn in stock:
            reached = {name: found.union(*[aims(stock[other]) for other in found]) for name, found in reached.items()}
        return reached

    def compare(self, stock):
        reached = self.reached_by_words(stock)
        for name in stock:
            self.assertEqual(reach(stock, name), sorted(reached[name]))
        tied = [name for name in sorted(stock) if name in reached[name]]
        self.assertEqual(sorted(name for knot in knots(stock) for name in knot), tied)
        for knot in knots(stock):
            self.assertEqual(list(knot), [name for name in sorted(stock) if name in reached[knot[0]] and knot[0] in reached[name]])
        self.assertEqual(knots(stock), sorted(knots(stock)))

    def test_small_ones(self):
        for stock in small_stocks():
            self.compare(stock)

    def test_thrown_ones(self):
        for seed in range(300):
            dice = Dice(seed)
            self.compare(thrown_stock(dice, SIXTEEN[:1 + dice.below(16)], 2))


class TestTold(unittest.TestCase):
    def test_no_stock(self):
        for thing in no_plain_stocks():
            for name in ("a", "z", None):
                self.assertRaises(NoStock, reach, thing, name)
            self.assertRaises(NoStock, knots, thing)

    def test_handed_in_it_stays_and_told_it_is_the_askers_own(self):
        stock = copy.deepcopy(FIT_RING)
        first, second = reach(stock, "a"), knots(stock)
        first.append("z")
        second.clear()
        self.assertEqual(reach(stock, "a"), ["a", "b"])
        self.assertEqual(knots(stock), [("a", "b")])
        self.assertEqual(stock, FIT_RING)
        stock["b"] = (LINE,)
        self.assertEqual(knots(stock), [])


if __name__ == "__main__":
    unittest.main()

"""Lots and snares, and whether a plain stock is safe."""

import copy
import itertools
import unittest

from halfmade.errors import Failed, NoStock
from halfmade.house import House
from halfmade.safe import is_lot, is_snare, safe
from tests.houses_at_hand import Dice
from tests.stocks_at_hand import (
    ALONE, FIT_RING, SIXTEEN, SNARED_RING, all_places, draws, first_row, is_snare_by_words, lots_by_words, no_plain_stocks,
    small_stocks, snares_by_words, thrown_stock,
)
from tests.things_at_hand import LINE, no_texts

# c draws x out of m; m's rows up to the one that binds x aim at a, whose body aims at b and m; behind it at d.
LOTS = {
    "c": (LINE, ("draw", "y", "m", "x")),
    "m": (("take", "m", "m"), ("take", "a", "a"), ("set", "x", 1), ("take", "d", "d"), ("set", "x", 2)),
    "a": (("draw", "y", "b", "x"), ("take", "m", "m")),
    "b": (LINE,),
    "d": (("take", "c", "c"),),
    "e": (),
}
# m waits for a, which waits for b, which draws x out of m ahead of its binding.
SNARE = {
    "m": (LINE, ("take", "w", "a"), ("set", "x", 2), ("take", "k", "a"), ("set", "v", 2), ("take", "v", "a")),
    "a": (("take", "b", "b"), ("take", "c", "c"), ("draw", "b", "b", "y")),
    "b": (("set", "y", 0), ("draw", "k", "m", "v"), ("draw", "x", "m", "x")),
    "c": (("draw", "t", "m", "k"),),
}


def refused_in_some_order(stock):
    """Whether in a house with this stock alone some taking is refused, in whatever order names are taken."""
    for names in itertools.permutations(sorted(stock)):
        house = House([stock])
        try:
            for name in names:
                house.take(name)
        except Failed:
            return True
    return False


class TestOwnDraws(unittest.TestCase):
    def test_fit(self):
        for body in ((LINE, ("draw", "y", "a", "x")), (LINE, ("draw", "x", "a", "x")), (LINE, ("set", "x", 2), ("draw", "y", "a", "x"), ("set", "x", 3))):
            self.assertEqual(safe({"a": body}), ("safe", {}))
            self.assertFalse(is_snare({"a": body}, [("a", len(body) - 1)]))

    def test_not_fit(self):
        for body, row in (((("draw", "y", "a", "x"), LINE), 0), ((("draw", "x", "a", "x"),), 0), ((("draw", "x", "a", "x"), LINE), 0),
                          ((("set", "y", 1), ("take", "a", "a"), ("draw", "k", "a", "x"), LINE), 2)):
            self.assertEqual(safe({"a": body}), ("unsafe", [("a", row)]))
            self.assertIs(is_snare({"a": body}, [("a", row)]), True)

    def test_beside_others(self):
        stock = {"a": (LINE,), "b": (("draw", "y", "a", "x"), ("draw", "z", "b", "w"), ("set", "w", 1))}
        self.assertEqual(safe(stock), ("unsafe", [("b", 1)]))


class TestIsLot(unittest.TestCase):
    def test_those_that_fit(self):
        for lot in (("a", "b"), ("a", "b", "e")):
            self.assertIs(is_lot(LOTS, "c", 1, lot), True)

    def test_one_name_is_lacking(self):
        for lot in ((), ("a",), ("b",), ("b", "e"), ("a", "e")):
            self.assertIs(is_lot(LOTS, "c", 1, lot), False)

    def test_it_has_one_more_that_aims_at_another(self):
        self.assertIs(is_lot(LOTS, "c", 1, ("a", "b", "d")), False)

    def test_it_has_the_drawing_name(self):
        self.assertIs(is_lot(LOTS, "c", 1, ("a", "b", "c")), False)
        self.assertIs(is_lot(LOTS, "c", 1, ("a", "b", "c", "d")), False)
        self.assertIs(is_lot(LOTS, "c", 1, ("a", "b", "c", "d", "m")), False)

    def test_it_may_have_the_name_out_of_which_is_drawn(self):
        # Then it has all names at which that body aims, too.
        self.assertIs(is_lot(LOTS, "c", 1, ("a", "b", "m")), False)
        stock = dict(LOTS, d=())
        self.assertIs(is_lot(stock, "c", 1, ("a", "b", "m")), False)
        self.assertIs(is_lot(stock, "c", 1, ("a", "b", "d", "m")), True)
        self.assertIs(is_lot(stock, "c", 1, ("a", "b")), True)

    def test_the_row_that_binds_counts_too(self):
        stock = {"c": (("draw", "y", "m", "x"),), "m": (("take", "x", "a"),), "a": ()}
        self.assertIs(is_lot(stock, "c", 0, ("a",)), True)
        self.assertIs(is_lot(stock, "c", 0, ()), False)

    def test_rows_behind_the_binding_one_do_not(self):
        stock = {"c": (("draw", "y", "m", "x"),), "m": (LINE, ("take", "x", "c"))}
        self.assertIs(is_lot(stock, "c", 0, ()), True)

    def test_not_sorted_or_a_name_twice(self):
        for lot in (("b", "a"), ("a", "a", "b"), ("a", "b", "b"), ("b", "a", "b"), ("e", "a", "b")):
            self.assertIs(is_lot(LOTS, "c", 1, lot), False)

    def test_lists_and_other_kinds(self):
        for lot in (["a", "b"], "ab", {"a", "b"}, {"a": 1, "b": 1}, frozenset({"a", "b"}), (("a", "b"),), ("a", "b", None), ("a", "b", 5),
                    ("a", "b", "z"), ("a", "b", ["e"]), ("a", "b", "A"), ("a", "b", ""), ("a.b",)):
            self.assertIs(is_lot(LOTS, "c", 1, lot), False)
        for thing in no_texts():
            self.assertIs(is_lot(LOTS, "c", 1, thing), False)
            self.assertIs(is_lot(LOTS, "c", 1, ("a", "b", thing)), False)

    def test_of_rows_that_are_no_draw_out_of_another_body(self):
        stock = {"a": (LINE, ("draw", "y", "a", "x"), ("take", "b", "b")), "b": ()}
        for row in (0, 1, 2, 3, -1, True, None, "0"):
            self.assertIs(is_lot(stock, "a", row, ()), False)
        for name in ("b", "z", None, [], 1):
            self.assertIs(is_lot(stock, name, 0, ()), False)


class TestIsSnare(unittest.TestCase):
    def test_right_ones(self):
        for snare in ([("m", 1), ("a", 0), ("b", 1)], [("m", 3), ("a", 0), ("b", 1)], [("m", 1), ("a", 1), ("c", 0)], [("m", 3), ("a", 1), ("c", 0)]):
            self.assertIs(is_snare(SNARE, snare), True, snare)

    def test_a_row_further_than_the_first_binding_one(self):
        # x is bound by row 0, v by row 4 and once more by row 5, k by row 3 itself.
        for snare in ([("m", 1), ("a", 0), ("b", 2)], [("m", 5), ("a", 0), ("b", 1)], [("m", 5), ("a", 1), ("c", 0)]):
            self.assertIs(is_snare(SNARE, snare), False, snare)

    def test_the_binding_row_itself(self):
        stock = {"m": (("take", "x", "a"),), "a": (("draw", "y", "m", "x"),)}
        self.assertIs(is_snare(stock, [("m", 0), ("a", 0)]), True)

    def test_a_first_row_that_aims_at_nothing_or_elsewhere(self):
        for snare in ([("m", 0), ("a", 0), ("b", 1)], [("m", 2), ("a", 0), ("b", 1)], [("m", 4), ("a", 0), ("b", 1)]):
            self.assertIs(is_snare(SNARE, snare), False, snare)

    def test_a_step_that_aims_elsewhere(self):
        for snare in ([("m", 1), ("a", 1), ("b", 1)], [("m", 1), ("c", 0)], [("m", 1), ("b", 1)], [("m", 1), ("a", 0), ("c", 0)],
                      [("m", 1), ("c", 0), ("a", 0), ("b", 1)]):
            self.assertIs(is_snare(SNARE, snare), False, snare)

    def test_a_last_row_that_draws_nothing_or_elsewhere(self):
        for snare in ([("m", 1), ("a", 0), ("b", 0)], [("m", 1), ("a", 0)], [("m", 1), ("a", 2)], [("a", 0), ("b", 1)], [("m", 1)], [("m", 0)], [("b", 1)]):
            self.assertIs(is_snare(SNARE, snare), False, snare)

    def test_a_name_twice(self):
        stock = {"m": (("take", "t", "m"), ("take", "t", "a"), LINE), "a": (("take", "a", "a"), ("draw", "y", "m", "x"))}
        self.assertIs(is_snare(stock, [("m", 1), ("a", 1)]), True)
        for snare in ([("m", 0), ("m", 1), ("a", 1)], [("m", 1), ("a", 0), ("a", 1)], [("m", 1), ("a", 1), ("a", 1)], [("m", 1), ("m", 1), ("a", 1)]):
            self.assertIs(is_snare(stock, snare), False, snare)

    def test_truths_for_numbers(self):
        self.assertIs(is_snare(SNARE, [("m", True), ("a", 0), ("b", 1)]), False)
        self.assertIs(is_snare(SNARE, [("m", 1), ("a", False), ("b", 1)]), False)
        self.assertIs(is_snare(SNARE, [("m", 1), ("a", 0), ("b", True)]), False)
        self.assertIs(is_snare({"a": (("draw", "x", "a", "x"),)}, [("a", False)]), False)

    def test_rows_that_are_not_there(self):
        for snare in ([("m", -5), ("a", 0), ("b", 1)], [("m", 1), ("a", -3), ("b", 1)], [("m", 1), ("a", 0), ("b", 3)], [("m", 1), ("a", 0), ("b", -2)],
                      [("m", 99), ("a", 0), ("b", 1)], [("z", 0)], [("m", 1), ("z", 0), ("b", 1)]):
            self.assertIs(is_snare(SNARE, snare), False, snare)

    def test_tuples_for_lists_and_lists_for_tuples(self):
        self.assertIs(is_snare(SNARE, (("m", 1), ("a", 0), ("b", 1))), False)
        self.assertIs(is_snare(SNARE, [["m", 1], ("a", 0), ("b", 1)]), False)
        self.assertIs(is_snare(SNARE, [("m", 1), ("a", 0), ["b", 1]]), False)

    def test_anything(self):
        for thing in no_texts() + ["", "ma", [()], [("m",)], [("m", 1, 0), ("a", 0), ("b", 1)], [("m", 1), None], [("m", "1"), ("a", 0), ("b", 1)],
                                   [(1, "m")], [("m", None)], [(None, 1)], [([], 0)], [("m", 1.0), ("a", 0), ("b", 1)], {("m", 1): 1}]:
            self.assertIs(is_snare(SNARE, thing), False)


class TestSafe(unittest.TestCase):
    def test_known_ones(self):
        self.assertEqual(safe({}), ("safe", {}))
        self.assertEqual(safe(ALONE), ("safe", {}))
        self.assertEqual(safe(FIT_RING), ("safe", {("b", 0): ()}))
        self.assertEqual(safe(SNARED_RING), ("unsafe", [("a", 0), ("b", 0)]))

    def test_lots_for_all_draws_out_of_other_bodies(self):
        told = safe(LOTS)
        self.assertEqual(told[0], "safe")
        self.assertEqual(sorted(told[1]), [("a", 0), ("c", 1)])
        for (name, row), lot in told[1].items():
            self.assertIs(is_lot(LOTS, name, row, lot), True)

    def test_kinds(self):
        told = safe(LOTS)
        self.assertEqual([type(told), type(told[1])] + [type(lot) for lot in told[1].values()], [tuple, dict, tuple, tuple])
        told = safe(SNARED_RING)
        self.assertEqual([type(told), type(told[1])] + [type(place) for place in told[1]], [tuple, list, tuple, tuple])

    def test_a_ring_of_sixteen(self):
        stock = {name: (("take", "t", other), LINE) for name, other in zip(SIXTEEN, SIXTEEN[1:])}
        stock["p"] = (("draw", "y", "a", "x"),)
        self.assertEqual(safe(stock), ("unsafe", [(name, 0) for name in SIXTEEN]))
        stock["a"] = (LINE, ("take", "t", "b"))
        self.assertEqual(safe(stock), ("safe", {("p", 0): ()}))

    def test_takes_alone_are_safe(self):
        self.assertEqual(safe({"a": (("take", "t", "b"),), "b": (("take", "t", "a"),)}), ("safe", {}))


class TestBesideHouses(unittest.TestCase):
    """safe tells safe just where no taking is ever refused; lots fit, a snare is one and is refused."""

    def check(self, stock):
        verdict, shown = safe(stock)
        self.assertEqual(verdict == "unsafe", refused_in_some_order(stock), stock)
        if verdict == "safe":
            self.assertEqual(sorted(shown), sorted((c, q) for c, q, m, x in draws(stock) if c != m))
            for (name, row), lot in shown.items():
                self.assertIs(is_lot(stock, name, row, lot), True, (stock, name, row, lot))
                self.assertIn(lot, lots_by_words(stock, name, row))
        else:
            self.check_snare(stock, shown)
        return verdict

    def check_snare(self, stock, snare):
        self.assertIs(is_snare(stock, snare), True, (stock, snare))
        self.assertIs(is_snare_by_words(stock, snare), True)
        with self.assertRaises(Failed) as caught:
            House([stock]).take(snare[0][0])
        self.assertEqual(caught.exception.fault[0], "HALF")

    def test_all_small_stocks(self):
        verdicts = [self.check(stock) for stock in small_stocks()]
        self.assertGreater(verdicts.count("safe"), 100)
        self.assertGreater(verdicts.count("unsafe"), 100)

    def test_thrown_stocks(self):
        verdicts = []
        for seed in range(1200):
            dice = Dice(seed)
            verdicts.append(self.check(thrown_stock(dice, "abcd"[:2 + dice.below(3)], 3)))
        self.assertGreater(verdicts.count("safe"), 100)
        self.assertGreater(verdicts.count("unsafe"), 100)

    def test_all_lots_and_snares_of_small_stocks(self):
        for seed in range(250):
            dice = Dice(seed)
            stock = thrown_stock(dice, "abc"[:1 + dice.below(3)], 2)
            self.all_lots(stock)
            snares = [places for places in all_places(stock) if is_snare(stock, places)]
            self.assertEqual(snares, snares_by_words(stock), stock)
            self.assertEqual(safe(stock)[0] == "unsafe", snares != [])
            for snare in snares:
                self.check_snare(stock, snare)

    def all_lots(self, stock):
        """is_lot tells what the words tell; a stock is safe just where each draw is fit or some lot fits it."""
        fit = []
        names = sorted(stock)
        tuples = [lot for many in range(len(names) + 2) for lot in itertools.product(names, repeat=many)]
        for c, q, m, x in draws(stock):
            if c == m:
                fit.append(first_row(stock, m, x) < q)
                continue
            lots = [lot for lot in tuples if is_lot(stock, c, q, lot)]
            self.assertEqual(lots, lots_by_words(stock, c, q), (stock, c, q))
            fit.append(lots != [])
        self.assertEqual(safe(stock)[0] == "safe", all(fit))

    def test_sixteen_names(self):
        for seed in range(60):
            dice = Dice(seed)
            stock = thrown_stock(dice, SIXTEEN, 1)
            verdict, shown = safe(stock)
            if verdict == "unsafe":
                self.check_snare(stock, shown)
            else:
                for first in SIXTEEN:
                    house = House([stock])
                    for name in first + SIXTEEN[::-1]:
                        house.take(name)
                for (name, row), lot in shown.items():
                    self.assertIs(is_lot(stock, name, row, lot), True)


class TestTold(unittest.TestCase):
    def test_no_stock(self):
        for thing in no_plain_stocks():
            self.assertRaises(NoStock, safe, thing)
            for other in ((), ("a",), None, []):
                self.assertRaises(NoStock, is_lot, thing, "a", 0, other)
                self.assertRaises(NoStock, is_lot, thing, None, None, other)
            for other in ([("a", 0)], None, (), []):
                self.assertRaises(NoStock, is_snare, thing, other)

    def test_handed_in_it_stays_and_told_it_is_the_askers_own(self):
        for stock in (copy.deepcopy(LOTS), copy.deepcopy(SNARED_RING)):
            ahead = copy.deepcopy(stock)
            first = safe(stock)
            as_told = copy.deepcopy(first)
            safe(stock)[1].clear()
            self.assertEqual(safe(stock), as_told)
            self.assertEqual(stock, ahead)
            stock.clear()
            self.assertEqual(first, as_told)

    def test_a_handed_snare_stays(self):
        snare = [("m", 1), ("a", 0), ("b", 1)]
        is_snare(SNARE, snare)
        self.assertEqual(snare, [("m", 1), ("a", 0), ("b", 1)])


if __name__ == "__main__":
    unittest.main()

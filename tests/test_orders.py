"""What is foretold, orders and rests, single stocks, heads first, and houses told by paths."""

import copy
import itertools
import unittest

from halfmade.errors import Failed, NoStock
from halfmade.house import House
from halfmade.orders import by_paths, foretold, heads_first, is_single, order
from halfmade.plain import is_plain, knots
from halfmade.safe import safe
from tests.houses_at_hand import Dice, outcome
from tests.machine import Machine
from tests.stocks_at_hand import (
    ALONE, FIT_RING, SIXTEEN, SNARED_RING, aims, first_row, no_plain_stocks, small_stocks, snares_by_words, thrown_stock,
)
from tests.test_tries import trying
from tests.things_at_hand import LINE


def thrown_stocks(many, names, most, single=False):
    for seed in range(many):
        dice = Dice(seed)
        yield thrown_stock(dice, names[:1 + dice.below(len(names))], most, single)


def begins(house):
    return [entry[2] for entry in house.log() if entry[0] == "begin"]


def foretold_by_words(stock, name, begun):
    """The bodies that begin where a name is taken, each at its first aiming, put behind those begun."""
    if name not in begun:
        begun.append(name)
        for aim in aims(stock[name]):
            foretold_by_words(stock, aim, begun)
    return begun


class TestForetold(unittest.TestCase):
    def test_known_ones(self):
        self.assertEqual(foretold({"a": ()}, "a"), ["a"])
        self.assertEqual(foretold(SNARED_RING, "a"), ["a", "b"])
        self.assertEqual(foretold(SNARED_RING, "b"), ["b", "a"])
        stock = {"a": (("take", "t", "c"), ("draw", "y", "b", "x")), "b": (LINE,), "c": (("take", "t", "d"), ("take", "t", "a")), "d": (("take", "t", "b"),)}
        self.assertEqual(foretold(stock, "a"), ["a", "c", "d", "b"])
        self.assertEqual(foretold(stock, "d"), ["d", "b"])

    def test_a_draw_out_of_the_own_body(self):
        self.assertEqual(foretold({"a": (("draw", "x", "a", "x"),)}, "a"), ["a"])

    def test_sixteen_in_a_row(self):
        stock = {name: (("take", "t", other), LINE) for name, other in zip(SIXTEEN, SIXTEEN[1:])}
        stock["p"] = (("draw", "y", "a", "x"),)
        self.assertEqual(foretold(stock, "a"), list(SIXTEEN))
        self.assertEqual(foretold(stock, "c"), list(SIXTEEN[2:] + "ab"))

    def test_against_a_house_in_which_each_draw_is_made_a_take(self):
        for stock in itertools.chain(small_stocks(), thrown_stocks(200, "abcde", 4), thrown_stocks(30, SIXTEEN, 3)):
            taking = {name: tuple(("take",) + row[1:3] if row[0] == "draw" else row for row in body) for name, body in stock.items()}
            for name in stock:
                house = House([taking])
                house.take(name)
                self.assertEqual(foretold(stock, name), begins(house))
                self.assertEqual(foretold(stock, name), foretold_by_words(stock, name, []))

    def test_behind_any_takings_of_a_safe_stock(self):
        many = 0
        for stock in thrown_stocks(600, "abcd", 3):
            if safe(stock)[0] == "unsafe":
                continue
            many += 1
            for names in itertools.permutations(stock):
                house = House([stock])
                for name in names:
                    ahead = begins(house)
                    house.take(name)
                    self.assertEqual(begins(house)[len(ahead):], [other for other in foretold(stock, name) if other not in ahead])
        self.assertGreater(many, 50)


class TestOrder(unittest.TestCase):
    def refused(self, stock, names, name):
        """By the machine: whether a name is refused where just these were taken; all these aren't."""
        machine = Machine([stock])
        for other in names:
            self.assertEqual(machine.take(other)[0], "module")
        return machine.take(name)[0] != "module"

    def whole(self, stock, names):
        machine = Machine([stock])
        for name in names:
            machine.take(name)
        return list(machine.table)

    def test_known_ones(self):
        self.assertEqual(order({}), ([], ()))
        self.assertEqual(order(ALONE), (["a"], ()))
        self.assertEqual(order(FIT_RING), (["a"], ()))
        self.assertEqual(order(SNARED_RING), (["b"], ()))
        self.assertEqual(order({"c": (), "b": (("take", "t", "c"),), "a": ()}), (["a", "b"], ()))

    def test_a_rest(self):
        stock = {"a": (("draw", "x", "a", "x"),), "b": (("take", "t", "a"),), "c": (("take", "t", "d"), LINE), "d": (("draw", "y", "c", "x"),), "e": ()}
        self.assertEqual(order(stock), (["d", "e"], ("a", "b")))
        self.assertEqual(order({"b": (("draw", "x", "b", "x"),), "a": (("take", "t", "b"),)}), ([], ("a", "b")))

    def test_what_a_refused_name_leaves_whole_is_not_counted(self):
        # a makes c whole ahead of its own fault: c is taken as itself, and b is left.
        stock = {"a": (("take", "t", "c"), ("draw", "x", "a", "x")), "b": (("take", "t", "a"),), "c": ()}
        self.assertEqual(order(stock), (["c"], ("a", "b")))

    def test_one_that_can_be_taken_behind_another_only(self):
        # a waits for b at a row ahead of x; b draws x out of a; so b comes first, whatever the names say.
        stock = {"a": (("take", "t", "b"), ("set", "x", 1)), "b": (("draw", "y", "a", "x"),), "c": (("take", "t", "a"),)}
        self.assertEqual(order(stock), (["b", "c"], ()))

    def test_kinds(self):
        told = order({"a": (), "b": (("draw", "x", "b", "x"),)})
        self.assertEqual([type(told)] + [type(part) for part in told], [tuple, list, tuple])

    def walk(self, stock):
        """The order and the rest, each by the words of the document, in houses of a machine's."""
        names, rest = order(stock)
        for at in range(len(names) + 1):
            whole = self.whole(stock, names[:at])
            free = [name for name in sorted(stock) if name not in whole and not self.refused(stock, names[:at], name)]
            self.assertEqual(free[:1], names[at:at + 1], stock)
        self.assertEqual(rest, tuple(name for name in sorted(stock) if name not in self.whole(stock, names)))
        for name in rest:
            self.assertTrue(self.refused(stock, names, name))
        return names, rest

    def last_ones(self, stock, at):
        """The rest where in the place of the first by name another one is taken, the one at this place of the free ones."""
        names = []
        while True:
            whole = self.whole(stock, names)
            free = [name for name in sorted(stock) if name not in whole and not self.refused(stock, names, name)]
            if not free:
                return tuple(name for name in sorted(stock) if name not in whole)
            names.append(free[at % len(free)])

    def test_walked_through_by_houses(self):
        rests = 0
        for stock in itertools.chain(small_stocks(), thrown_stocks(400, "abcd", 3), thrown_stocks(12, SIXTEEN, 2)):
            names, rest = self.walk(stock)
            rests += rest != () and names != []
        self.assertGreater(rests, 50)

    def test_who_takes_any_such_name_comes_to_the_same_rest(self):
        for stock in thrown_stocks(400, "abcde", 3):
            for at in (-1, 1, 7):
                self.assertEqual(self.last_ones(stock, at), order(stock)[1])

    def test_safe_stocks_have_no_rest(self):
        for stock in small_stocks():
            if safe(stock)[0] == "safe":
                self.assertEqual(order(stock)[1], ())


class TestIsSingle(unittest.TestCase):
    def test_known_ones(self):
        for stock in ({}, {"a": ()}, ALONE, FIT_RING, SNARED_RING, {"a": (LINE,), "b": (LINE,)}):
            self.assertIs(is_single(stock), True)
        for stock in ({"a": (LINE, LINE)}, {"a": (), "b": (LINE, ("take", "y", "a"), ("late", "x", "y"))},
                      {"a": (("take", "t", "a"), ("draw", "t", "a", "t"))}):
            self.assertIs(is_single(stock), False)

    def test_what_is_drawn_is_no_binding(self):
        self.assertIs(is_single({"a": (LINE, ("draw", "y", "a", "x"), ("draw", "z", "a", "x"))}), True)

    def test_two_houses_have_the_same(self):
        shared = 0
        for stock in thrown_stocks(300, "abcd", 4, single=True):
            self.assertIs(is_single(stock), True)
            told = []
            for names in itertools.permutations(stock):
                house = House([stock])
                try:
                    for name in names:
                        house.take(name)
                        told.append(by_paths(house))
                except Failed:
                    pass
            for one, other in itertools.combinations(told[:12], 2):
                for path in one:
                    if path in other:
                        shared += 1
                        self.assertEqual(one[path], other[path], stock)
        self.assertGreater(shared, 1000)


class TestHeadsFirst(unittest.TestCase):
    def test_known_ones(self):
        self.assertEqual(heads_first({}), {})
        self.assertEqual(heads_first(SNARED_RING), {"a": (LINE, ("take", "b", "b")), "b": (("draw", "y", "a", "x"),)})
        body = (("take", "t", "a"), ("set", "x", 1), ("draw", "y", "a", "x"), ("late", "f", "x"), ("take", "x", "a"), ("set", "x", 2), ("draw", "t", "a", "x"))
        heads = (("set", "x", 1), ("late", "f", "x"), ("set", "x", 2), ("take", "t", "a"), ("draw", "y", "a", "x"), ("take", "x", "a"), ("draw", "t", "a", "x"))
        self.assertEqual(heads_first({"a": body}), {"a": heads})

    def test_it_is_a_plain_stock_and_twice_the_same(self):
        for stock in itertools.chain(small_stocks(), thrown_stocks(300, "abcd", 5)):
            heads = heads_first(stock)
            self.assertIs(is_plain(heads), True)
            self.assertEqual(heads_first(heads), heads)
            self.assertEqual(list(heads), list(stock))
            for name in stock:
                self.assertEqual(sorted(heads[name], key=repr), sorted(stock[name], key=repr))

    def test_its_snares(self):
        """The first row that binds what is drawn is a take or a draw."""
        many = 0
        for stock in itertools.chain(small_stocks(), thrown_stocks(200, "abc", 3)):
            heads = heads_first(stock)
            for snare in snares_by_words(heads):
                many += 1
                name, row = snare[-1]
                m, x = heads[name][row][2:]
                self.assertIn(heads[m][first_row(heads, m, x)][0], ("take", "draw"))
        self.assertGreater(many, 100)

    def test_what_binds_by_set_and_late_alone_is_safe(self):
        stock = {"a": (("take", "t", "b"), LINE), "b": (("take", "t", "a"), ("draw", "y", "a", "x"), ("late", "f", "y"))}
        self.assertEqual(safe(stock)[0], "unsafe")
        self.assertEqual(safe(heads_first(stock))[0], "safe")


class TestByPaths(unittest.TestCase):
    def test_each_kind_of_thing(self):
        house = House([{"a": (LINE, ("take", "b", "b"), ("late", "f", "b.y"), ("take", "k", "a.c")), "b": (("take", "me", "b"), ("set", "y", -2)),
                        "a.c": (("draw", "g", "a", "f"),)}])
        self.assertEqual(by_paths(house), {})
        house.take("a")
        self.assertEqual(by_paths(house), {
            "a": {"x": 1, "b": ("module", "b"), "f": ("function", "a", "b.y"), "k": ("module", "a.c"), "c": ("module", "a.c")},
            "b": {"me": ("module", "b"), "y": -2},
            "a.c": {"g": ("function", "a", "b.y")},
        })

    def test_behind_a_failure(self):
        house = House([{"a": (LINE, ("late", "f", "x"), ("take", "b", "b"), ("fail", "stop")), "b": (("take", "m", "a"), ("draw", "g", "a", "f"))}])
        self.assertRaises(Failed, house.take, "a")
        self.assertEqual(by_paths(house), {"b": {"m": ("module", "a"), "g": ("function", "a", "x")}})

    def test_behind_what_was_let_go(self):
        house = House([{"a": (LINE,), "b": (("take", "m", "a"),)}])
        house.take("b")
        house.let_go("a")
        self.assertEqual(by_paths(house), {"b": {"m": ("module", "a")}})
        house.take("a")
        self.assertEqual(by_paths(house), {"b": {"m": ("module", "a")}, "a": {"x": 1}})
        house.let_go("a")
        house.let_go("b")
        self.assertEqual(by_paths(house), {})

    def test_behind_a_reading_anew(self):
        house = House([{"a": (LINE, ("set", "y", 2))}])
        house.take("a")
        house.put(0, "a", (("late", "x", "y"),))
        house.anew("a")
        self.assertEqual(by_paths(house), {"a": {"x": ("function", "a", "y"), "y": 2}})

    def test_behind_a_caught_fault(self):
        house = House([{"a": (trying((("take", "b", "b"),)), LINE), "b": (("fail", "stop"),)}])
        house.take("a")
        self.assertEqual(by_paths(house), {"a": {"x": 1}})

    def test_it_changes_nothing_and_is_the_askers_own(self):
        house = House([FIT_RING])
        house.take("a")
        ahead = (house.table(), house.log(), house.paper())
        first = by_paths(house)
        as_told = copy.deepcopy(first)
        first["a"].clear()
        del first["b"]
        self.assertEqual(by_paths(house), as_told)
        kept = by_paths(house)
        house.let_go("a")
        self.assertEqual(kept, as_told)
        self.assertEqual((house.log(), house.paper()), ahead[1:])

    def test_many(self):
        for seed in range(200):
            dice = Dice(seed)
            stock = thrown_stock(dice, "abc", 3)
            house = House([stock])
            for turn in range(6):
                outcome(house, (dice.one_of(("take", "take", "let_go", "anew")), dice.one_of("abc")))
            told = by_paths(house)
            self.assertEqual(list(told), list(house.table()))
            for path, number in house.table().items():
                names = house.names_of(number)
                self.assertEqual(list(told[path]), list(names))
                for name, thing in names.items():
                    if isinstance(thing, tuple):
                        thing = (thing[0], house.path_of(thing[1]), *thing[2:])
                    self.assertEqual(told[path][name], thing)


class TestTold(unittest.TestCase):
    def test_the_order_in_which_a_stock_was_written_has_no_part(self):
        for stock in thrown_stocks(200, "abcd", 3):
            turned = {name: stock[name] for name in reversed(list(stock))}
            for action in (order, safe, knots, is_single, heads_first):
                self.assertEqual(action(stock), action(turned))
            for name in stock:
                self.assertEqual(foretold(stock, name), foretold(turned, name))

    def test_no_stock(self):
        for thing in no_plain_stocks():
            for action in (order, is_single, heads_first):
                self.assertRaises(NoStock, action, thing)
            for name in ("a", "z", None):
                self.assertRaises(NoStock, foretold, thing, name)

    def test_handed_in_it_stays_and_told_it_is_the_askers_own(self):
        stock = copy.deepcopy(SNARED_RING)
        foretold(stock, "a").clear()
        order(stock)[0].append("z")
        heads_first(stock).clear()
        is_single(stock)
        self.assertEqual(stock, SNARED_RING)
        self.assertEqual(foretold(stock, "a"), ["a", "b"])
        self.assertEqual(order(stock), (["b"], ()))
        told = (foretold(stock, "a"), order(stock), heads_first(stock))
        as_told = copy.deepcopy(told)
        stock.clear()
        self.assertEqual(told, as_told)


if __name__ == "__main__":
    unittest.main()

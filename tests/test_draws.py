"""Draw rows: names drawn out of whole modules, half-made ones and the own one."""

import itertools
import unittest

from halfmade.draws import Draws
from halfmade.errors import Failed
from tests.houses_at_hand import HouseCase
from tests.things_at_hand import LINE, SIXTY


class TestDraw(HouseCase):
    def test_out_of_a_whole_module(self):
        house = Draws([{"a": (LINE, ("set", "y", SIXTY)), "b": (("draw", "k", "a", "y"), ("draw", "x", "a", "x"))}])
        house.take("a")
        self.assertEqual(house.take("b"), 2)
        self.assertEqual(house.names_of(2), {"k": SIXTY, "x": 1})
        log = [("begin", 1, "a"), ("end", 1), ("begin", 2, "b"), ("have", 1), ("have", 1), ("end", 2)]
        self.all_told(house, table={"a": 1, "b": 2}, log=log, paper=[(1, None, None), (2, None, None)])

    def test_it_takes_the_path(self):
        house = Draws([{"a": (LINE,), "b": (LINE, ("draw", "y", "a", "x"))}])
        house.take("b")
        log = [("begin", 1, "b"), ("begin", 2, "a"), ("end", 2), ("end", 1)]
        self.all_told(house, table={"b": 1, "a": 2}, log=log, paper=[(1, None, None), (2, 1, 1)])
        self.assertEqual(house.names_of(1), {"x": 1, "y": 1})

    def test_it_binds_its_first_name_alone(self):
        house = Draws([{"a": (LINE,), "b": (("draw", "y", "a", "x"),)}])
        house.take("b")
        self.assertEqual(house.names_of(1), {"y": 1})
        self.assertEqual(house.names_of(2), {"x": 1})

    def test_bound_ahead_of_the_taking(self):
        house = Draws([{"a": (LINE, ("take", "b", "b"), ("set", "x", 2)), "b": (("draw", "y", "a", "x"),)}])
        house.take("a")
        self.assertEqual(house.names_of(2), {"y": 1})
        self.assertEqual(house.names_of(1), {"x": 2, "b": ("module", 2)})

    def test_bound_behind_the_taking(self):
        finders = [{"a": (("take", "b", "b"), LINE), "b": (("draw", "y", "a", "x"),)}]
        house = Draws(finders)
        fault = ("HALF", "a", "x", (("a", 0), ("b", 0)))
        self.fails(house, "a", fault, [("a", 0), ("b", 0)])
        log = [("begin", 1, "a"), ("begin", 2, "b"), ("have", 1), ("fail", 2, fault), ("fail", 1, fault)]
        self.all_told(house, table={}, log=log, paper=[(1, None, None), (2, 1, 0)])
        other = Draws(finders)
        self.assertEqual(other.take("b"), 1)
        self.assertEqual(other.names_of(1), {"y": 1})
        self.assertEqual(other.names_of(2), {"b": ("module", 1), "x": 1})

    def test_modules_and_functions_are_drawn_as_they_are(self):
        house = Draws([{"a": (LINE, ("take", "me", "a"), ("late", "f", "x")),
                        "b": (("draw", "m", "a", "me"), ("draw", "g", "a", "f"), ("draw", "a", "a", "x"))}])
        house.take("b")
        self.assertEqual(house.names_of(1), {"m": ("module", 2), "g": ("function", 2, "x"), "a": 1})

    def test_a_missing_path(self):
        house = Draws([{"a": (LINE, ("draw", "y", "z", "x"), ("set", "w", 1))}])
        self.fails(house, "a", ("NOMODULE", "z"), [("a", 1)])
        self.assertEqual(house.names_of(1), {"x": 1})

    def test_a_body_that_fails(self):
        house = Draws([{"a": (("draw", "y", "b", "x"),), "b": (LINE, ("take", "z", "z"))}])
        fault = ("NOMODULE", "z")
        self.fails(house, "a", fault, [("a", 0), ("b", 1)])
        self.assertEqual(house.log()[2:], [("fail", 2, fault), ("fail", 1, fault)])

    def test_what_ended_whole_stays(self):
        house = Draws([{"a": (("draw", "y", "b", "x"), ("draw", "q", "b", "q")), "b": (LINE,)}])
        self.fails(house, "a", ("NONAME", "b", "q"), [("a", 1)])
        self.assertEqual(house.table(), {"b": 2})
        self.assertEqual([house.state_of(1), house.state_of(2)], ["failed", "whole"])
        self.assertEqual(house.names_of(1), {"y": 1})

    def test_what_was_done_ahead_of_a_fault_stays_and_nothing_behind_it_is_done(self):
        house = Draws([{"a": (LINE, ("draw", "y", "a", "q"), ("set", "x", 2), ("note", "a"))}])
        self.assertRaises(Failed, house.take, "a")
        self.assertEqual(house.names_of(1), {"x": 1})
        self.assertEqual([entry[0] for entry in house.log()], ["begin", "have", "fail"])


class TestItself(HouseCase):
    def test_a_name_that_is_there(self):
        house = Draws([{"a": (LINE, ("draw", "y", "a", "x"), ("draw", "x", "a", "y"))}])
        self.assertEqual(house.take("a"), 1)
        self.assertEqual(house.names_of(1), {"x": 1, "y": 1})
        self.assertEqual(house.log(), [("begin", 1, "a"), ("have", 1), ("have", 1), ("end", 1)])

    def test_a_name_that_comes_later_or_never(self):
        for body in ((LINE, ("draw", "y", "a", "w"), ("set", "w", 1)), (LINE, ("draw", "w", "a", "w"))):
            house = Draws([{"a": body}])
            self.fails(house, "a", ("HALF", "a", "w", (("a", 1),)), [("a", 1)])
            self.assertEqual(house.log()[1], ("have", 1))


class TestRings(HouseCase):
    def test_of_three(self):
        house = Draws([{"a": (LINE, LINE, ("take", "b", "b")), "b": (("draw", "c", "c", "x"),),
                        "c": (LINE, ("draw", "y", "a", "q"))}])
        ring = (("a", 2), ("b", 0), ("c", 1))
        self.fails(house, "a", ("HALF", "a", "q", ring), list(ring))

    def test_the_ring_begins_with_the_module_the_road_with_the_chain(self):
        stock = {"a": (("take", "b", "b"),), "b": (LINE, ("take", "c", "c")), "c": (LINE, LINE, ("take", "d", "d")),
                 "d": (("draw", "y", "b", "q"),)}
        chain = (("a", 0), ("b", 1), ("c", 2), ("d", 0))
        for path, at in (("a", 0), ("b", 1), ("c", 2), ("d", 3)):
            changed = dict(stock, d=(("draw", "y", path, "q"),))
            house = Draws([changed])
            self.fails(house, "a", ("HALF", path, "q", chain[at:]), list(chain))
            for number in (1, 2, 3, 4):
                self.assertEqual(house.state_of(number), "failed")

    def test_of_sixteen(self):
        names = "abcdefghijklmnop"
        stock = {name: (("take", "n", other),) for name, other in zip(names, names[1:])}
        stock["p"] = (("draw", "y", "a", "n"),)
        ring = tuple((name, 0) for name in names)
        self.fails(Draws([stock]), "a", ("HALF", "a", "n", ring), list(ring))

    def test_each_row_in_a_ring_takes_the_next_one(self):
        stock = {"a": (("draw", "y", "b", "y"),), "b": (LINE, ("take", "c", "c"), ("set", "y", 1)),
                 "c": (("take", "a", "a"), ("draw", "q", "b", "y"))}
        house = Draws([stock])
        ring = (("b", 1), ("c", 1))
        self.fails(house, "a", ("HALF", "b", "y", ring), [("a", 0), ("b", 1), ("c", 1)])
        self.assertEqual(house.paper(), [(1, None, None), (2, 1, 0), (3, 2, 1)])

    def test_a_whole_one_that_was_made_on_the_way_is_in_no_ring(self):
        stock = {"a": (("take", "b", "b"), ("take", "c", "c")), "b": (LINE,), "c": (("draw", "y", "b", "q"),)}
        self.fails(Draws([stock]), "a", ("NONAME", "b", "q"), [("a", 1), ("c", 0)])


class TestNoName(HouseCase):
    def test_of_a_whole_module(self):
        house = Draws([{"a": (LINE,), "b": (LINE, ("draw", "y", "a", "q"))}])
        self.fails(house, "b", ("NONAME", "a", "q"), [("b", 1)])
        self.fails(house, "b", ("NONAME", "a", "q"), [("b", 1)])
        self.assertEqual(house.table(), {"a": 2})

    def test_of_an_elder_module_of_the_same_path_that_failed(self):
        # b holds the first a, which fails by looking for a name in itself.
        house = Draws([{"a": (("take", "b", "b"), ("now", "y", "b.a.q")), "b": (("take", "a", "a"),)}])
        self.fails(house, "a", ("HALF", "a", "q", (("a", 1),)), [("a", 1)])
        self.assertEqual(house.table(), {"b": 2})
        self.fails(house, "a", ("NONAME", "a", "q"), [("a", 1)])
        self.assertEqual(house.names_of(2), {"a": ("module", 1)})
        self.assertEqual(house.names_of(1), house.names_of(3))

    def test_an_elder_one_shows_the_names_that_it_has(self):
        house = Draws([{"a": (LINE, ("take", "b", "b"), ("draw", "y", "a", "q")), "b": (("take", "a", "a"),),
                        "c": (("take", "b", "b"), ("now", "k", "b.a.x"), ("now", "q", "b.a.q"))}])
        self.assertRaises(Failed, house.take, "a")
        self.fails(house, "c", ("NONAME", "a", "q"), [("c", 2)])
        self.assertEqual(house.names_of(3), {"b": ("module", 2), "k": 1})


class TestBoundAgain(HouseCase):
    def test_who_drew_keeps_what_was_drawn(self):
        house = Draws([{"a": (LINE, ("take", "b", "b"), ("set", "x", 2), ("take", "c", "c"), ("set", "x", 3)),
                        "b": (("draw", "y", "a", "x"),), "c": (("draw", "y", "a", "x"), ("draw", "w", "b", "y"))}])
        house.take("a")
        self.assertEqual(house.names_of(2), {"y": 1})
        self.assertEqual(house.names_of(3), {"y": 2, "w": 1})
        self.assertEqual(house.thing("a", "x"), 3)

    def test_a_drawn_name_bound_again_leaves_the_other_module(self):
        house = Draws([{"a": (LINE,), "b": (("draw", "x", "a", "x"), ("set", "x", 7)),
                        "c": (("draw", "x", "a", "x"), ("draw", "x", "b", "x"), ("draw", "x", "a", "x"))}])
        house.take("c")
        self.assertEqual([house.names_of(number) for number in (1, 2, 3)], [{"x": 1}, {"x": 1}, {"x": 7}])


class TestAllSmallStocks(HouseCase):
    """Every stock of two short bodies of takes and draws, beside a machine of its own."""

    def test_two_bodies(self):
        rows = [("set", "x", 1), ("draw", "x", "a", "x"), ("draw", "y", "b", "x"), ("draw", "x", "b", "y"),
                ("take", "y", "a"), ("now", "y", "x.x")]
        bodies = [body for many in range(3) for body in itertools.product(rows, repeat=many)]
        for one, other in itertools.product(bodies, repeat=2):
            self.reckoned(Draws, [{"a": one, "b": other}], [("take", "a"), ("take", "b"), ("take", "a")])


if __name__ == "__main__":
    unittest.main()

"""Now, late and ask rows: roads followed from the own module, at once or when asked."""

import unittest

from halfmade.draws import Draws
from tests.houses_at_hand import Dice, HouseCase, Rows
from tests.things_at_hand import LINE

# a leads to b, c and d, each by the name of the next one; each has n, a number, and f, a function.
ROW = {
    "a": (("take", "b", "b"), ("set", "n", 1), ("late", "f", "n")),
    "b": (("take", "c", "c"), ("set", "n", 2), ("late", "f", "n")),
    "c": (("take", "d", "d"), ("set", "n", 3), ("late", "f", "c")),
    "d": (("set", "n", 4), ("late", "f", "n")),
}
# The numbers of the modules of ROW where e is taken first.
NUMBER = {"a": 2, "b": 3, "c": 4, "d": 5}


class AskCase(HouseCase):
    def named(self, rows, names, stock=None):
        """A body of these rows, behind one that takes a, has these names besides."""
        house = self.house(rows, stock)
        self.assertEqual(house.take("e"), 1)
        self.assertEqual(house.names_of(1), dict(names, a=("module", 2)))

    def house(self, rows, stock=None):
        return Draws([dict(stock or ROW, e=(("take", "a", "a"),) + rows)])


class TestNow(AskCase):
    def test_roads_of_one_to_four_names(self):
        self.named((("now", "r", "a"),), {"r": ("module", 2)})
        self.named((("now", "r", "a.n"),), {"r": 1})
        self.named((("now", "r", "a.b"),), {"r": ("module", 3)})
        self.named((("now", "r", "a.b.n"),), {"r": 2})
        self.named((("now", "r", "a.b.c.n"),), {"r": 3})
        self.named((("now", "r", "a.b.c.d"),), {"r": ("module", 5)})
        self.named((("now", "r", "a.b.c"), ("now", "s", "r.d.n")), {"r": ("module", 4), "s": 4})

    def test_a_function_is_bound_not_asked(self):
        self.named((("now", "r", "a.b.f"),), {"r": ("function", 3, "n")})

    def test_it_takes_nothing(self):
        house = Draws([dict(ROW, e=(LINE, ("now", "y", "x"), ("now", "x", "y")))])
        house.take("e")
        self.all_told(house, table={"e": 1}, log=[("begin", 1, "e"), ("end", 1)], paper=[(1, None, None)])

    def test_flat_at_each_step(self):
        for road, fault in (("n.b", ("FLAT", "e", "n")), ("a.n.b", ("FLAT", "a", "n")), ("a.b.n.c", ("FLAT", "b", "n")),
                            ("a.f.n", ("FLAT", "a", "f")), ("n.n.n.n", ("FLAT", "e", "n"))):
            house = self.house((("set", "n", 0), ("now", "r", road)))
            self.fails(house, "e", fault, [("e", 2)])

    def test_no_name_at_each_step(self):
        for road, path in (("a.q", "a"), ("a.q.n", "a"), ("a.b.q", "b"), ("a.b.q.n", "b"), ("a.b.c.q", "c")):
            self.fails(self.house((("now", "r", road),)), "e", ("NONAME", path, "q"), [("e", 1)])

    def test_half_of_the_own_module(self):
        for road in ("q", "q.x", "q.a.b.n"):
            self.fails(self.house((("now", "r", road),)), "e", ("HALF", "e", "q", (("e", 1),)), [("e", 1)])

    def test_half_of_a_module_that_waits(self):
        house = Draws([{"a": (LINE, ("take", "b", "b")), "b": (("take", "a", "a"), ("now", "y", "a.x"), ("now", "w", "a.b"))}])
        self.fails(house, "a", ("HALF", "a", "b", (("a", 1), ("b", 2))), [("a", 1), ("b", 2)])
        self.assertEqual(house.names_of(2), {"a": ("module", 1), "y": 1})

    def test_half_of_a_module_two_steps_away(self):
        house = Draws([{"a": (("take", "b", "b"),), "b": (("take", "c", "c"),), "c": (("take", "a", "a"), ("take", "d", "d")),
                        "d": (("take", "c", "c"), ("now", "y", "c.a.b"))}])
        ring = (("a", 0), ("b", 0), ("c", 1), ("d", 1))
        self.fails(house, "a", ("HALF", "a", "b", ring), list(ring))

    def test_what_was_bound_now_keeps_what_it_was(self):
        self.named((("set", "x", 1), ("now", "y", "x"), ("set", "x", 2), ("now", "w", "x")), {"x": 2, "y": 1, "w": 2})

    def test_its_own_name_bound_to_what_it_led_to(self):
        self.named((("set", "x", 1), ("now", "x", "x"), ("now", "b", "a.b"), ("now", "b", "b.c")), {"x": 1, "b": ("module", 4)})


class TestLate(AskCase):
    def test_nothing_is_looked_for_when_it_is_bound(self):
        house = Draws([{"e": (("late", "f", "q"), ("late", "g", "q.r.s.t"), ("late", "f", "g"))}])
        house.take("e")
        self.assertEqual(house.names_of(1), {"f": ("function", 1, "g"), "g": ("function", 1, "q.r.s.t")})
        self.assertEqual(house.log(), [("begin", 1, "e"), ("end", 1)])

    def test_asked_it_tells_what_the_name_is_then(self):
        rows = (("set", "x", 1), ("late", "f", "x"), ("ask", "k", "f"), ("set", "x", 2), ("ask", "m", "f"),
                ("now", "x", "a"), ("ask", "n", "f"))
        self.named(rows, {"x": ("module", 2), "f": ("function", 1, "x"), "k": 1, "m": 2, "n": ("module", 2)})

    def test_asked_from_outside_it_tells_what_the_name_is_then(self):
        house = Draws([{"e": (("late", "f", "x"), LINE, ("set", "x", 2))}])
        house.take("e")
        self.assertEqual(house.ask("e", "f"), 2)


class TestAsk(AskCase):
    def test_roads_of_one_to_four_names(self):
        rows = (("late", "g", "a.b.c"), ("ask", "k", "g"), ("ask", "m", "a.f"), ("ask", "n", "a.b.f"),
                ("now", "b", "a.b"), ("ask", "o", "b.c.d.f"))
        self.named(rows, {"g": ("function", 1, "a.b.c"), "k": ("module", 4), "m": 1, "n": 2, "b": ("module", 3), "o": 4})

    def test_a_function_of_four_names_asked_by_a_road_of_four(self):
        stock = dict(ROW, d=(("take", "b", "b"), ("late", "f", "b.c.d.x"), ("set", "x", 8)))
        house = Draws([dict(stock, e=(("take", "a", "a"), ("ask", "r", "a.b.c.d"),))])
        self.fails(house, "e", ("NOTASK", "c", "d"), [("e", 1)])
        self.named((("now", "b", "a.b"), ("ask", "r", "b.c.d.f")), {"b": ("module", 3), "r": 8}, stock)

    def test_not_ask_with_path_and_name(self):
        for road, path, name in (("n", "e", "n"), ("a", "e", "a"), ("a.n", "a", "n"), ("a.b", "a", "b"),
                                 ("a.b.n", "b", "n"), ("a.b.c.n", "c", "n"), ("a.b.c.d", "c", "d")):
            house = self.house((("set", "n", 0), ("ask", "r", road)))
            self.fails(house, "e", ("NOTASK", path, name), [("e", 2)])
            self.assertEqual(house.names_of(1), {"a": ("module", 2), "n": 0})

    def test_faults_on_the_way_to_the_function(self):
        for road, fault in (("q", ("HALF", "e", "q", (("e", 1),))), ("a.q", ("NONAME", "a", "q")),
                            ("a.n.f", ("FLAT", "a", "n")), ("a.f.f", ("FLAT", "a", "f"))):
            self.fails(self.house((("ask", "r", road),)), "e", fault, [("e", 1)])

    def test_faults_of_the_function_asked(self):
        for road, fault in (("q", ("HALF", "e", "q", (("e", 2),))), ("a.q", ("NONAME", "a", "q")),
                            ("a.n.f", ("FLAT", "a", "n")), ("f.x", ("FLAT", "e", "f"))):
            self.fails(self.house((("late", "f", road), ("ask", "r", "f"))), "e", fault, [("e", 2)])

    def test_drawn_out_of_its_home_and_asked_elsewhere(self):
        house = Draws([{"a": (LINE, ("late", "f", "x"), ("set", "x", 5)),
                        "b": (("draw", "g", "a", "f"), ("set", "x", 9), ("ask", "y", "g"))}])
        house.take("b")
        self.assertEqual(house.names_of(1), {"g": ("function", 2, "x"), "x": 9, "y": 5})
        self.assertEqual(house.ask("b", "g"), 5)

    def test_drawn_out_of_its_half_made_home(self):
        stock = {"a": (("late", "f", "x"), ("take", "b", "b"), LINE), "b": (("draw", "g", "a", "f"), ("ask", "y", "g"))}
        house = Draws([stock])
        fault = ("HALF", "a", "x", (("a", 1), ("b", 1)))
        self.fails(house, "a", fault, [("a", 1), ("b", 1)])
        lazy = Draws([dict(stock, b=(("draw", "g", "a", "f"),), c=(("draw", "g", "b", "g"), ("ask", "y", "g")))])
        lazy.take("a")
        lazy.take("c")
        self.assertEqual(lazy.thing("c", "y"), 1)

    def test_functions_that_lead_to_functions(self):
        rows = (("set", "x", 1), ("late", "f", "x"), ("late", "g", "f"), ("late", "h", "g"), ("ask", "k", "h"), ("ask", "m", "k"),
                ("ask", "n", "m"), ("ask", "o", "n"))
        house = Draws([{"e": rows}])
        self.fails(house, "e", ("NOTASK", "e", "n"), [("e", 7)])
        self.assertEqual(house.names_of(1), {
            "x": 1, "f": ("function", 1, "x"), "g": ("function", 1, "f"), "h": ("function", 1, "g"),
            "k": ("function", 1, "f"), "m": ("function", 1, "x"), "n": 1})

    def test_a_function_that_leads_to_itself(self):
        self.named((("late", "f", "f"), ("ask", "k", "f"), ("ask", "m", "k")),
                   {"f": ("function", 1, "f"), "k": ("function", 1, "f"), "m": ("function", 1, "f")})

    def test_two_functions_that_lead_to_each_other(self):
        house = Draws([{"a": (("take", "b", "b"), ("late", "f", "b.f")), "b": (("take", "a", "a"), ("late", "f", "a.f"))}])
        house.take("a")
        self.assertEqual(house.ask("a", "f"), ("function", 2, "a.f"))
        self.assertEqual(house.ask("b", "f"), ("function", 1, "b.f"))

    def test_a_function_of_a_home_that_failed(self):
        house = Draws([{"a": (LINE, ("late", "f", "x"), ("late", "g", "q"), ("take", "b", "b"), ("take", "z", "z")),
                        "b": (("take", "a", "a"), ("draw", "f", "a", "f"), ("draw", "g", "a", "g"))}])
        self.fails(house, "a", ("NOMODULE", "z"), [("a", 4)])
        self.assertEqual(house.ask("b", "f"), 1)
        self.fault_of(("NONAME", "a", "q"), [], house.ask, "b", "g")
        self.assertEqual(house.thing("b", "f"), ("function", 1, "x"))

    def test_it_takes_nothing_and_notes_nothing(self):
        house = Draws([{"e": (LINE, ("late", "f", "x"), ("ask", "y", "f"))}])
        house.take("e")
        self.assertEqual(house.log(), [("begin", 1, "e"), ("end", 1)])


class TestMany(HouseCase):
    """Many houses of all rows up to stage 4, beside a machine of its own."""

    WORDS = ["set", "set", "set", "now", "take", "take", "draw", "late", "late", "ask", "note"]
    ROADS = ["a", "b", "c", "x", "y", "a.x", "b.x", "b.y", "a.b", "a.b.x", "b.c.y", "a.b.c", "a.b.c.x", "c.y"]

    def test_many(self):
        words = []
        for seed in range(2500):
            dice = Dice(seed)
            rows = Rows(dice, self.WORDS, ["a", "b", "c", "x", "y"], ["a", "b", "c"] * 6 + ["z"], self.ROADS)
            finders = [{path: rows.body(6) for path in "abc" if dice.below(9)} for turn in range(1 + dice.below(2))]
            deeds = []
            for turn in range(3):
                deeds.append(("take", dice.one_of("abcz")))
                deeds.append(("thing", dice.one_of("abc"), dice.one_of(self.ROADS)))
                deeds.append(("ask", dice.one_of("abc"), dice.one_of(self.ROADS)))
            words += self.words_of_log(self.reckoned(Draws, finders, deeds))
        for word in ("HALF", "NONAME", "FLAT", "NOTASK", "NOMODULE", "end", "note", "have"):
            self.assertGreater(words.count(word), 50, word)


if __name__ == "__main__":
    unittest.main()

"""Things asked for from outside: no deed, and nothing changes by it."""

import copy
import itertools
import unittest

from halfmade.draws import Draws
from halfmade.errors import Failed, NoPath, NoRoad, NotTaken
from halfmade.tries import Tries
from halfmade.within import Within
from tests.houses_at_hand import HouseCase, all_of
from tests.things_at_hand import LINE, no_texts

NOT_WRITTEN_SO = ["", ".", "A", "a ", " a", "a.", ".a", "a..b", "a.b.c.d.e", "abcdefghi", "a\n", "a1", "a-b", "a.b.C"]
STOCK = {
    "a": (LINE, ("take", "b", "b"), ("late", "f", "b.y"), ("late", "g", "q"), ("late", "h", "x.y"), ("late", "k", "f")),
    "b": (("set", "y", 7), ("take", "a", "a"), ("late", "f", "a.x")),
    "c": (("set", "w", 1), ("take", "z", "z")),
    "d": (("take", "d", "d"), ("set", "n", 3)),
}


def no_paths():
    return no_texts() + NOT_WRITTEN_SO


class OutsideCase(HouseCase):
    def house(self):
        house = Draws([STOCK])
        house.take("a")
        return house


class TestThing(OutsideCase):
    def test_a_number_a_module_a_function(self):
        house = self.house()
        self.assertEqual(house.thing("a", "x"), 1)
        self.assertEqual(house.thing("a", "b"), ("module", 2))
        self.assertEqual(house.thing("b", "a"), ("module", 1))
        self.assertEqual(house.thing("a", "f"), ("function", 1, "b.y"))
        self.assertEqual(house.thing("a", "b.f"), ("function", 2, "a.x"))

    def test_roads_of_one_to_four_names(self):
        house = self.house()
        for road, thing in (("b", ("module", 2)), ("b.y", 7), ("b.a", ("module", 1)), ("b.a.x", 1), ("b.a.b", ("module", 2)),
                            ("b.a.b.y", 7), ("b.a.b.a", ("module", 1)), ("b.a.b.f", ("function", 2, "a.x"))):
            self.assertEqual(house.thing("a", road), thing)

    def test_faults(self):
        house = self.house()
        for road, fault in (("q", ("NONAME", "a", "q")), ("q.x", ("NONAME", "a", "q")), ("b.q", ("NONAME", "b", "q")),
                            ("x.y", ("FLAT", "a", "x")), ("f.y", ("FLAT", "a", "f")), ("b.y.q", ("FLAT", "b", "y")),
                            ("b.a.b.q", ("NONAME", "b", "q"))):
            self.fault_of(fault, [], house.thing, "a", road)

    def test_kinds(self):
        house = self.house()
        self.assertIs(type(house.thing("a", "x")), int)
        self.assertIs(type(house.thing("a", "b")), tuple)
        self.assertIs(type(house.thing("a", "f")), tuple)

    def test_a_module_bound_in_itself(self):
        house = Draws([STOCK])
        house.take("d")
        self.assertEqual(house.thing("d", "d.d.d.n"), 3)


class TestAsk(OutsideCase):
    def test_what_functions_tell(self):
        house = self.house()
        self.assertEqual(house.ask("a", "f"), 7)
        self.assertEqual(house.ask("b", "f"), 1)
        self.assertEqual(house.ask("a", "b.f"), 1)
        self.assertEqual(house.ask("a", "b.a.b.f"), 1)
        self.assertEqual(house.ask("a", "k"), ("function", 1, "b.y"))

    def test_a_module_told_by_a_function(self):
        house = Draws([{"a": (("late", "f", "b"), ("take", "b", "b")), "b": ()}])
        house.take("a")
        self.assertEqual(house.ask("a", "f"), ("module", 2))

    def test_no_function(self):
        house = self.house()
        for road, path, name in (("x", "a", "x"), ("b", "a", "b"), ("b.y", "b", "y"), ("b.a", "b", "a"), ("b.a.b.y", "b", "y")):
            self.fault_of(("NOTASK", path, name), [], house.ask, "a", road)

    def test_faults_on_the_way_there(self):
        house = self.house()
        self.fault_of(("NONAME", "a", "q"), [], house.ask, "a", "q")
        self.fault_of(("NONAME", "b", "q"), [], house.ask, "a", "b.q.f")
        self.fault_of(("FLAT", "a", "x"), [], house.ask, "a", "x.f")
        self.fault_of(("FLAT", "a", "f"), [], house.ask, "a", "f.f")

    def test_faults_of_what_is_asked(self):
        house = self.house()
        self.fault_of(("NONAME", "a", "q"), [], house.ask, "a", "g")
        self.fault_of(("FLAT", "a", "x"), [], house.ask, "a", "h")


class TestRefused(OutsideCase):
    def test_no_path_first(self):
        house = self.house()
        for ask in (house.thing, house.ask):
            for path in no_paths():
                for road in ("x", "q", "", None, 5, [], "A"):
                    self.refused(NoPath, ask, path, road)

    def test_then_not_taken(self):
        for house in (self.house(), Draws([STOCK]), Draws([]), Within([{"a.b": ()}])):
            for ask in (house.thing, house.ask):
                for path in ("c", "z", "a.b", "a.b.c.d"):
                    for road in ["x", "q"] + no_paths():
                        self.refused(NotTaken, ask, path, road)

    def test_then_no_road(self):
        house = self.house()
        for ask in (house.thing, house.ask):
            for road in no_paths():
                self.refused(NoRoad, ask, "a", road)

    def test_a_path_that_failed_is_not_taken(self):
        house = Draws([STOCK])
        self.assertRaises(Failed, house.take, "c")
        self.refused(NotTaken, house.thing, "c", "w")
        self.refused(NotTaken, house.ask, "c", "w")


class TestNoDeed(OutsideCase):
    def ask_all(self, house):
        """Asks for whatever there may be, refused or not."""
        roads = ["x", "f", "g", "h", "k", "b", "b.y", "b.a.f", "q", "x.q", "a.b.c.d.e", None, 7]
        for ask, path, road in itertools.product((house.thing, house.ask), ["a", "b", "c", "z", "A", None], roads):
            try:
                ask(path, road)
            except (Failed, NoPath, NotTaken, NoRoad):
                pass

    def test_nothing_changes(self):
        for kind in (Draws, Tries, Within):
            house = kind([STOCK])
            for deed in (None, "b", "a", "c", "z", "c", "a", "d"):
                try:
                    if deed is not None:
                        house.take(deed)
                except Failed:
                    pass
                self.changes_nothing(house, lambda: self.ask_all(house))

    def test_nothing_is_taken(self):
        house = Draws([STOCK])
        self.ask_all(house)
        self.assertEqual(all_of(house), ({}, [], [], []))
        self.assertEqual(house.take("b"), 1)

    def test_a_deed_goes_on_as_if_nothing_was_asked(self):
        asked, other = Draws([STOCK]), Draws([STOCK])
        for path in ("b", "c", "a", "c", "d"):
            for house in (asked, other):
                try:
                    house.take(path)
                except Failed:
                    pass
            self.ask_all(asked)
        self.assertEqual(all_of(asked), all_of(other))

    def test_a_path_within_is_not_taken_by_a_road(self):
        house = Within([{"a": (("late", "f", "b"),), "a.b": (LINE,)}])
        house.take("a")
        self.fault_of(("NONAME", "a", "b"), [], house.thing, "a", "b")
        self.fault_of(("NONAME", "a", "b"), [], house.ask, "a", "f")
        house.take("a.b")
        self.assertEqual(house.thing("a", "b.x"), 1)
        self.assertEqual(house.thing("a.b", "x"), 1)
        self.assertEqual(house.ask("a", "f"), ("module", 2))

    def test_asked_twice_it_is_told_alike_and_stays_as_it_was_told(self):
        house = self.house()
        first = [house.thing("a", "b"), house.thing("a", "f"), house.ask("a", "f"), house.ask("a", "k")]
        as_told = copy.deepcopy(first)
        house.take("d")
        self.assertEqual(first, as_told)
        self.assertEqual([house.thing("a", "b"), house.thing("a", "f"), house.ask("a", "f"), house.ask("a", "k")], first)

    def test_each_road_of_a_refusal_is_the_askers_own(self):
        house = self.house()
        for ask in (house.thing, house.ask):
            with self.assertRaises(Failed) as caught:
                ask("a", "q")
            caught.exception.road.append(("a", 0))
            self.fault_of(("NONAME", "a", "q"), [], ask, "a", "q")


if __name__ == "__main__":
    unittest.main()

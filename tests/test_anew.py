"""Modules read anew."""

import unittest

from halfmade.errors import Failed, NoPath, NotTaken
from halfmade.house import House
from tests.houses_at_hand import HouseCase
from tests.test_tries import trying
from tests.things_at_hand import LINE, no_texts

STOP = ("stop",)


class AnewCase(HouseCase):
    def read(self, body, **others):
        """A house with a, of x and y and a function f of x, whole and to be read anew by this body."""
        house = House([dict(others, a=(LINE, ("set", "y", 5), ("late", "f", "x")))])
        house.take("a")
        house.put(0, "a", body)
        return house

    def stays(self, house, names):
        """a is the same module, whole, in the table, with these names."""
        self.assertEqual(house.table()["a"], 1)
        self.assertEqual(house.state_of(1), "whole")
        self.assertEqual(house.names_of(1), names)


class TestRead(AnewCase):
    def test_the_same_number(self):
        house = self.read((("set", "x", 2),))
        self.assertEqual(house.anew("a"), 1)
        self.assertEqual(house.anew("a"), 1)
        self.assertEqual(house.table(), {"a": 1})
        self.assertEqual(house.take("a"), 1)

    def test_names_that_are_not_bound_again_stay(self):
        house = self.read((("set", "x", 2), ("set", "w", 3)))
        house.anew("a")
        self.stays(house, {"x": 2, "y": 5, "w": 3, "f": ("function", 1, "x")})

    def test_an_empty_body(self):
        house = self.read(())
        house.anew("a")
        self.stays(house, {"x": 1, "y": 5, "f": ("function", 1, "x")})

    def test_by_the_same_body(self):
        house = House([{"a": (LINE, ("now", "y", "x"))}])
        house.take("a")
        house.anew("a")
        self.assertEqual(house.names_of(1), {"x": 1, "y": 1})

    def test_log_and_paper(self):
        house = self.read((("take", "b", "b"), ("note", "a")), b=())
        house.anew("a")
        log = [("begin", 1, "a"), ("end", 1), ("anew", 1, "a"), ("begin", 2, "b"), ("end", 2), ("note", 1, ("b", "f", "x", "y")), ("end", 1)]
        self.all_told(house, {"a": 1, "b": 2}, log, [(1, None, None), (1, None, None), (2, 1, 0)])

    def test_who_holds_the_module_sees_the_new_names(self):
        house = self.read((("set", "x", 2), ("set", "w", 3)), b=(("take", "m", "a"), ("draw", "k", "a", "x"), ("draw", "g", "a", "f")))
        house.take("b")
        house.put(0, "a", (("set", "x", 4), ("set", "w", 3), ("late", "f", "y")))
        house.anew("a")
        self.assertEqual(house.thing("b", "m.x"), 4)
        self.assertEqual(house.thing("b", "m.w"), 3)
        # Who holds a thing drawn out of it keeps that: the number, and the old function, which looks there now.
        self.assertEqual(house.thing("b", "k"), 1)
        self.assertEqual(house.thing("b", "g"), ("function", 1, "x"))
        self.assertEqual(house.ask("b", "g"), 4)
        self.assertEqual(house.ask("b", "m.f"), 5)

    def test_the_first_finder_that_has_it(self):
        house = House([{}, {"a": (("set", "x", 1),)}, {"a": (("set", "x", 3),)}])
        house.take("a")
        house.put(0, "a", (("set", "x", 2),))
        house.anew("a")
        self.assertEqual(house.thing("a", "x"), 2)
        house.put(0, "a", None)
        house.put(1, "a", None)
        house.anew("a")
        self.assertEqual(house.thing("a", "x"), 3)


class TestAmidTheReading(AnewCase):
    def test_it_is_taken_half_made(self):
        house = self.read((("take", "b", "b"), ("set", "x", 2)), b=(("take", "m", "a"), ("draw", "k", "a", "x"), ("note", "a")))
        house.anew("a")
        self.assertEqual(house.names_of(2), {"m": ("module", 1), "k": 1})
        self.assertEqual(house.log()[2:], [("anew", 1, "a"), ("begin", 2, "b"), ("have", 1), ("have", 1), ("note", 2, ("f", "x", "y")), ("end", 2), ("end", 1)])

    def test_it_is_in_the_chain(self):
        house = self.read((LINE, ("take", "b", "b"), ("set", "w", 2)), b=(LINE, LINE, ("draw", "k", "a", "w")))
        ring = (("a", 1), ("b", 2))
        self.fault_of(("HALF", "a", "w", ring), list(ring), house.anew, "a")
        self.stays(house, {"x": 1, "y": 5, "f": ("function", 1, "x")})

    def test_it_looks_in_itself(self):
        house = self.read((("draw", "k", "a", "y"), ("now", "m", "x"), ("ask", "n", "f"), ("now", "o", "w")))
        self.fault_of(("HALF", "a", "w", (("a", 3),)), [("a", 3)], house.anew, "a")
        self.stays(house, {"x": 1, "y": 5, "f": ("function", 1, "x"), "k": 5, "m": 1, "n": 1})

    def test_behind_the_reading_it_is_whole(self):
        house = self.read((LINE,), b=(("draw", "k", "a", "w"),))
        house.anew("a")
        self.fails(house, "b", ("NONAME", "a", "w"), [("b", 0)])


class TestFails(AnewCase):
    def test_by_a_word(self):
        house = self.read((("set", "x", 2), ("fail", "stop"), ("set", "y", 9)))
        self.fault_of(STOP, [("a", 1)], house.anew, "a")
        self.stays(house, {"x": 2, "y": 5, "f": ("function", 1, "x")})
        log = [("begin", 1, "a"), ("end", 1), ("anew", 1, "a"), ("fail", 1, STOP)]
        self.all_told(house, {"a": 1}, log, [(1, None, None), (1, None, None)])

    def test_by_a_name(self):
        house = self.read((("set", "x", 2), ("draw", "k", "b", "q"), ("set", "y", 9)), b=())
        self.fault_of(("NONAME", "b", "q"), [("a", 1)], house.anew, "a")
        self.stays(house, {"x": 2, "y": 5, "f": ("function", 1, "x")})
        self.assertEqual(house.table(), {"a": 1, "b": 2})

    def test_by_a_path_that_no_finder_has(self):
        house = self.read((("set", "w", 2), ("take", "k", "z")))
        self.fault_of(("NOMODULE", "z"), [("a", 1)], house.anew, "a")
        self.stays(house, {"x": 1, "y": 5, "w": 2, "f": ("function", 1, "x")})

    def test_by_a_body_that_was_taken(self):
        house = self.read((("set", "x", 2), LINE, ("take", "b", "b")), b=(("take", "c", "c"), ("fail", "stop")), c=())
        self.fault_of(STOP, [("a", 2), ("b", 1)], house.anew, "a")
        self.stays(house, {"x": 1, "y": 5, "f": ("function", 1, "x")})
        log = [("begin", 1, "a"), ("end", 1), ("anew", 1, "a"), ("begin", 2, "b"), ("begin", 3, "c"), ("end", 3), ("fail", 2, STOP), ("fail", 1, STOP)]
        self.all_told(house, {"a": 1, "c": 3}, log, [(1, None, None), (1, None, None), (2, 1, 2), (3, 2, 0)])
        self.assertEqual([house.state_of(number) for number in (1, 2, 3)], ["whole", "failed", "whole"])

    def test_caught(self):
        house = self.read((trying((("set", "x", 2), ("take", "b", "b")), ("stop",), (("set", "w", 3),)),), b=(("fail", "stop"),))
        self.assertEqual(house.anew("a"), 1)
        self.stays(house, {"x": 2, "y": 5, "w": 3, "f": ("function", 1, "x")})
        self.assertEqual(house.log()[2:], [("anew", 1, "a"), ("begin", 2, "b"), ("fail", 2, STOP), ("caught", 1, 0, "stop"), ("end", 1)])

    def test_taken_behind_that_it_is_there(self):
        house = self.read((("fail", "stop"),), b=(("draw", "k", "a", "x"),))
        self.assertRaises(Failed, house.anew, "a")
        self.assertEqual(house.take("a"), 1)
        house.take("b")
        self.assertEqual(house.names_of(2), {"k": 1})
        self.assertRaises(Failed, house.anew, "a")
        house.put(0, "a", (("set", "x", 2),))
        self.assertEqual(house.anew("a"), 1)
        self.assertEqual(house.thing("a", "x"), 2)

    def test_let_go_behind_that_it_is_gone(self):
        house = self.read((("fail", "stop"),))
        self.assertRaises(Failed, house.anew, "a")
        house.let_go("a")
        self.assertEqual(house.state_of(1), "gone")

    def test_where_no_finder_has_it_nothing_is_run(self):
        house = self.read(None)
        self.changes_nothing(house, lambda: self.fault_of(("NOMODULE", "a"), [], house.anew, "a"))
        self.stays(house, {"x": 1, "y": 5, "f": ("function", 1, "x")})
        self.assertEqual(house.log(), [("begin", 1, "a"), ("end", 1)])

    def test_the_road_is_the_askers_own(self):
        house = self.read((("fail", "stop"),))
        with self.assertRaises(Failed) as caught:
            house.anew("a")
        caught.exception.road.clear()
        self.fault_of(STOP, [("a", 0)], house.anew, "a")


class TestMetAgain(AnewCase):
    def test_in_the_same_deed(self):
        house = self.read((trying((("take", "b", "b"),)), LINE, ("take", "b", "b")), b=(("fail", "stop"),))
        self.fault_of(STOP, [("a", 2)], house.anew, "a")
        self.assertEqual(house.log()[2:], [("anew", 1, "a"), ("begin", 2, "b"), ("fail", 2, STOP), ("caught", 1, 0, "stop"), ("again", 2), ("fail", 1, STOP)])

    def test_in_the_next_deed_anew(self):
        house = self.read((trying((("take", "b", "b"),)),), b=(("fail", "stop"),))
        for number in (2, 3):
            self.assertEqual(house.anew("a"), 1)
            self.assertIn(("begin", number, "b"), house.log())
        self.fails(house, "b", STOP, [("b", 0)])
        self.assertEqual(house.state_of(4), "failed")
        self.assertEqual([entry for entry in house.log() if entry[0] == "again"], [])

    def test_what_failed_in_the_deed_ahead_is_begun(self):
        house = self.read((trying((("take", "b", "b"),)),), b=(("fail", "stop"),))
        self.fails(house, "b", STOP, [("b", 0)])
        house.anew("a")
        self.assertEqual(house.log()[4:], [("anew", 1, "a"), ("begin", 3, "b"), ("fail", 3, STOP), ("caught", 1, 0, "stop"), ("end", 1)])


class TestParents(HouseCase):
    def test_beginnings_are_not_taken_and_nothing_is_bound(self):
        house = House([{"a": (), "a.b": (LINE,)}])
        house.take("a.b")
        house.let_go("a")
        self.assertEqual(house.anew("a.b"), 2)
        self.assertEqual(house.table(), {"a.b": 2})
        self.assertEqual(house.log()[4:], [("anew", 2, "a.b"), ("end", 2)])
        house.take("a")
        house.anew("a.b")
        self.assertEqual(house.names_of(3), {})
        self.assertEqual(house.log()[6:], [("begin", 3, "a"), ("end", 3), ("anew", 2, "a.b"), ("end", 2)])

    def test_the_parents_name_stays_what_it_is(self):
        house = House([{"a": (("take", "k", "a.b"), ("set", "b", 7)), "a.b": (LINE,)}])
        house.take("a")
        house.anew("a.b")
        self.assertEqual(house.thing("a", "b"), 7)

    def test_a_parent_read_anew_that_takes_its_child(self):
        house = House([{"a": (LINE,), "a.b": (("draw", "k", "a", "x"),)}])
        house.take("a")
        house.put(0, "a", (("set", "x", 2), ("take", "c", "a.b"), ("draw", "d", "a", "b")))
        house.anew("a")
        log = [("anew", 1, "a"), ("have", 1), ("begin", 2, "a.b"), ("have", 1), ("end", 2), ("have", 1), ("end", 1)]
        self.assertEqual(house.log()[2:], log)
        self.assertEqual(house.names_of(1), {"x": 2, "b": ("module", 2), "c": ("module", 2), "d": ("module", 2)})

    def test_a_draw_of_what_it_has_not_takes_the_path_within(self):
        house = House([{"a": (LINE,)}, {"a.b": (LINE,)}])
        house.take("a")
        house.put(0, "a", (("draw", "k", "a", "b"), ("draw", "m", "a", "c")))
        self.fault_of(("HALF", "a", "c", (("a", 1),)), [("a", 1)], house.anew, "a")
        self.assertEqual(house.names_of(1), {"x": 1, "k": ("module", 2), "b": ("module", 2)})

    def test_a_path_of_four_names(self):
        house = House([{"a": (), "a.b": (), "a.b.c": (), "a.b.c.d": (LINE,)}])
        house.take("a.b.c.d")
        house.put(0, "a.b.c.d", (("fail", "stop"),))
        self.fault_of(STOP, [("a.b.c.d", 0)], house.anew, "a.b.c.d")
        self.assertEqual(house.paper()[4:], [(4, None, None)])


class TestRefused(HouseCase):
    def test_no_path(self):
        house = House([{"a": ()}])
        house.take("a")
        for thing in no_texts() + ["", ".", "A", "a.", "a..b", "a.b.c.d.e", "abcdefghi"]:
            self.changes_nothing(house, lambda: self.refused(NoPath, house.anew, thing))

    def test_not_taken(self):
        house = House([{"a": (), "a.b": (), "b": (("fail", "stop"),), "c": ()}])
        house.take("a")
        house.take("c")
        house.let_go("c")
        self.assertRaises(Failed, house.take, "b")
        for path in ("a.b", "b", "c", "z", "a.b.c.d"):
            self.changes_nothing(house, lambda: self.refused(NotTaken, house.anew, path))


if __name__ == "__main__":
    unittest.main()

"""Modules within modules: beginnings taken, children bound, paths within drawn."""

import unittest

from halfmade.errors import Failed, NoPath
from halfmade.within import Within
from tests.houses_at_hand import Dice, HouseCase, Rows
from tests.test_tries import trying
from tests.things_at_hand import LINE, no_texts

FOUR = {"a": (), "a.b": (), "a.b.c": (), "a.b.c.d": (LINE,)}


def second_parent():
    """A house whose first a failed behind its child's end; its second one, 7, is whole, with the child, 2, standing ahead."""
    house = Within([{"a": (("take", "k", "a.b"), ("take", "m", "g")), "a.b": (LINE,), "g": (("take", "f", "f"), LINE),
                     "f": (("draw", "y", "g", "x"),), "e": (("draw", "k", "a", "b"),)}])
    try:
        house.take("a")
    except Failed:
        house.take("f")
        house.take("a")
    return house


class TestBeginnings(HouseCase):
    def test_of_one_name_there_is_itself_alone(self):
        house = Within([{"a": (LINE,), "a.b": ()}])
        self.assertEqual(house.take("a"), 1)
        self.all_told(house, {"a": 1}, [("begin", 1, "a"), ("end", 1)], [(1, None, None)])
        self.assertEqual(house.names_of(1), {"x": 1})

    def test_of_two_to_four_names_where_nothing_stands(self):
        paths = ["a", "a.b", "a.b.c", "a.b.c.d"]
        for many in (2, 3, 4):
            house = Within([FOUR])
            self.assertEqual(house.take(paths[many - 1]), many)
            log = [entry for number in range(1, many + 1) for entry in (("begin", number, paths[number - 1]), ("end", number))]
            self.all_told(house, dict(zip(paths, range(1, many + 1))), log, [(number, None, None) for number in range(1, many + 1)])
            for number in range(1, many):
                self.assertEqual(house.names_of(number), {"bcd"[number - 1]: ("module", number + 1)})

    def test_where_some_stand(self):
        house = Within([FOUR])
        house.take("a.b")
        self.assertEqual(house.take("a.b.c.d"), 4)
        self.assertEqual(house.log()[4:], [("have", 1), ("have", 2), ("begin", 3, "a.b.c"), ("end", 3), ("begin", 4, "a.b.c.d"), ("end", 4)])

    def test_where_all_stand(self):
        house = Within([FOUR])
        house.take("a.b.c.d")
        ahead = house.log()
        self.assertEqual(house.take("a.b.c.d"), 4)
        self.assertEqual(house.log(), ahead + [("have", number) for number in (1, 2, 3, 4)])
        self.assertEqual(house.take("a.b"), 2)

    def test_by_a_row(self):
        house = Within([dict(FOUR, e=(LINE, ("take", "k", "a.b.c")))])
        house.take("e")
        self.assertEqual(house.names_of(1), {"x": 1, "k": ("module", 4)})
        self.assertEqual(house.paper(), [(1, None, None), (2, 1, 1), (3, 1, 1), (4, 1, 1)])

    def test_by_a_draw(self):
        house = Within([dict(FOUR, e=(("draw", "k", "a.b.c.d", "x"),))])
        house.take("e")
        self.assertEqual(house.names_of(1), {"k": 1})
        self.assertEqual([entry[2] for entry in house.log() if entry[0] == "begin"], ["e", "a", "a.b", "a.b.c", "a.b.c.d"])

    def test_where_one_is_half_made(self):
        house = Within([{"a": (LINE, ("take", "e", "e"), ("set", "y", 1)), "e": (("take", "k", "a.b"), ("note", "a")), "a.b": (("draw", "q", "a", "x"),)}])
        house.take("a")
        log = [("begin", 1, "a"), ("begin", 2, "e"), ("have", 1), ("begin", 3, "a.b"), ("have", 1), ("end", 3),
               ("note", 2, ("b", "x")), ("end", 2), ("end", 1)]
        self.all_told(house, {"a": 1, "e": 2, "a.b": 3}, log, [(1, None, None), (2, 1, 1), (3, 2, 0)])
        self.assertEqual(house.names_of(1), {"b": ("module", 3), "e": ("module", 2), "x": 1, "y": 1})

    def test_where_the_first_one_is_missing(self):
        house = Within([{"a.b": (LINE,), "a.b.c": (), "e": (LINE, ("take", "k", "a.b"))}])
        self.fails(house, "a.b", ("NOMODULE", "a"), [])
        self.fails(house, "a.b.c", ("NOMODULE", "a"), [])
        self.fails(house, "e", ("NOMODULE", "a"), [("e", 1)])
        self.assertEqual(house.table(), {})

    def test_where_one_in_the_middle_is_missing(self):
        house = Within([{"a": (LINE,), "a.b.c": ()}])
        self.fails(house, "a.b.c", ("NOMODULE", "a.b"), [])
        self.all_told(house, {"a": 1}, [("begin", 1, "a"), ("end", 1)], [(1, None, None)])
        self.assertEqual(house.names_of(1), {"x": 1})

    def test_where_the_last_one_is_missing(self):
        house = Within([{"a": (LINE,)}])
        self.fails(house, "a.b", ("NOMODULE", "a.b"), [])
        self.assertEqual(house.table(), {"a": 1})

    def test_where_one_fails(self):
        house = Within([{"a": (LINE,), "a.b": (LINE, ("fail", "stop")), "a.b.c": (), "e": (("take", "k", "a.b.c"),)}])
        self.fails(house, "a.b.c", ("stop",), [("a.b", 1)])
        self.assertEqual(house.table(), {"a": 1})
        self.fails(house, "e", ("stop",), [("e", 0), ("a.b", 1)])
        self.assertEqual(house.names_of(1), {"x": 1})
        log = [("begin", 1, "a"), ("end", 1), ("begin", 2, "a.b"), ("fail", 2, ("stop",)), ("begin", 3, "e"), ("have", 1),
               ("begin", 4, "a.b"), ("fail", 4, ("stop",)), ("fail", 3, ("stop",))]
        self.assertEqual(house.log(), log)

    def test_a_fault_of_a_beginning_caught(self):
        house = Within([{"e": (trying((("take", "k", "a.b"),), ("NOMODULE",), (LINE,)), trying((("take", "k", "c.d"),), ("stop",), (("set", "y", 2),))),
                         "a.b": (), "c": (("fail", "stop"),), "c.d": ()}])
        house.take("e")
        self.assertEqual(house.names_of(1), {"x": 1, "y": 2})
        log = [("begin", 1, "e"), ("caught", 1, 0, "NOMODULE"), ("begin", 2, "c"), ("fail", 2, ("stop",)), ("caught", 1, 1, "stop"), ("end", 1)]
        self.assertEqual(house.log(), log)

    def test_no_path(self):
        house = Within([FOUR])
        for thing in no_texts() + ["", "a.", ".a", "a..b", "a.b.c.d.e", "A.b"]:
            self.assertRaises(NoPath, house.take, thing)


class TestBoundInTheParent(HouseCase):
    def test_behind_the_childs_end(self):
        house = Within([{"a": (), "a.b": (("note", "a"), trying((("draw", "k", "a", "b"),), ("HALF", "NONAME"), (("set", "f", 1),)), ("take", "e", "e")),
                         "e": (("note", "a"),)}])
        house.take("a.b")
        self.assertEqual([entry for entry in house.log() if entry[0] == "note"], [("note", 2, ()), ("note", 3, ())])
        # The draw of b out of a, amid b's own body, has the path within: the half-made module itself.
        self.assertEqual(house.names_of(2), {"k": ("module", 2), "e": ("module", 3)})
        self.assertEqual(house.names_of(1), {"b": ("module", 2)})

    def test_ahead_of_what_the_taking_row_binds(self):
        house = Within([{"a": (LINE, ("take", "k", "a.b"), ("note", "a")), "a.b": ()}])
        house.take("a")
        self.assertEqual(house.names_of(1), {"x": 1, "b": ("module", 2), "k": ("module", 2)})
        self.assertIn(("note", 1, ("b", "k", "x")), house.log())

    def test_in_the_place_of_what_the_name_was_bound_to(self):
        house = Within([{"a": (("set", "b", 7),), "a.b": (("draw", "y", "a", "b"),)}])
        house.take("a.b")
        self.assertEqual(house.names_of(2), {"y": 7})
        self.assertEqual(house.names_of(1), {"b": ("module", 2)})

    def test_the_parent_may_bind_the_name_again(self):
        house = Within([{"a": (("take", "k", "a.b"), ("set", "b", 7), ("take", "k", "a.b")), "a.b": ()}])
        house.take("a")
        self.assertEqual(house.names_of(1), {"k": ("module", 2), "b": 7})

    def test_not_where_the_child_failed(self):
        house = Within([{"a": (LINE, trying((("take", "k", "a.b"),))), "a.b": (("fail", "stop"),)}])
        house.take("a")
        self.assertEqual(house.names_of(1), {"x": 1})

    def test_not_where_the_child_stood_already(self):
        house = second_parent()
        self.assertEqual(house.names_of(1), {"k": ("module", 2), "b": ("module", 2)})
        self.assertEqual(house.names_of(7), {"k": ("module", 2), "m": ("module", 6)})
        self.assertEqual(house.take("a.b"), 2)
        self.assertEqual(house.names_of(7), {"k": ("module", 2), "m": ("module", 6)})

    def test_in_the_module_that_the_table_has(self):
        # h holds the first a, which failed; the child is begun below the second one.
        house = Within([{"a": (("take", "h", "h"), ("take", "m", "g")), "h": (("take", "a", "a"),), "a.b": (),
                         "g": (("take", "f", "f"), LINE), "f": (("draw", "y", "g", "x"),)}])
        self.fails(house, "a.b", ("HALF", "g", "x", (("g", 0), ("f", 0))), [("a", 1), ("g", 0), ("f", 0)])
        house.take("f")
        self.assertEqual(house.take("a.b"), 8)
        self.assertEqual(house.names_of(2), {"a": ("module", 1)})
        self.assertEqual(house.names_of(1), {"h": ("module", 2)})
        self.assertEqual(house.names_of(7), {"h": ("module", 2), "m": ("module", 6), "b": ("module", 8)})

    def test_grandchildren_are_bound_in_their_own_parents(self):
        house = Within([FOUR])
        house.take("a.b.c.d")
        self.assertEqual(house.thing("a", "b.c.d.x"), 1)
        self.assertEqual(house.names_of(1), {"b": ("module", 2)})

    def test_a_path_of_one_name_is_bound_nowhere(self):
        house = Within([{"a": (("take", "k", "b"),), "b": ()}])
        house.take("a")
        self.assertEqual(house.names_of(1), {"k": ("module", 2)})

    def test_a_child_of_a_child_with_its_parents_name(self):
        house = Within([{"a": (), "a.a": (), "a.a.a": (LINE,)}])
        house.take("a.a.a")
        self.assertEqual([house.names_of(number) for number in (1, 2, 3)], [{"a": ("module", 2)}, {"a": ("module", 3)}, {"x": 1}])


class TestAParentThatTakesItsChild(HouseCase):
    def test_by_take(self):
        house = Within([{"a": (LINE, ("take", "k", "a.b"), ("set", "y", 2)), "a.b": (("draw", "q", "a", "x"),)}])
        self.assertEqual(house.take("a.b"), 2)
        log = [("begin", 1, "a"), ("have", 1), ("begin", 2, "a.b"), ("have", 1), ("end", 2), ("end", 1), ("have", 2)]
        self.all_told(house, {"a": 1, "a.b": 2}, log, [(1, None, None), (2, 1, 1)])

    def test_by_draw(self):
        house = Within([{"a": (("draw", "k", "a", "b"),), "a.b": (LINE,)}])
        house.take("a")
        log = [("begin", 1, "a"), ("have", 1), ("begin", 2, "a.b"), ("end", 2), ("end", 1)]
        self.all_told(house, {"a": 1, "a.b": 2}, log, [(1, None, None), (2, 1, 0)])
        self.assertEqual(house.names_of(1), {"b": ("module", 2), "k": ("module", 2)})

    def test_the_child_looks_for_what_comes_later(self):
        house = Within([{"a": (("take", "k", "a.b"), LINE), "a.b": (("draw", "q", "a", "x"),)}])
        ring = (("a", 0), ("a.b", 0))
        self.fails(house, "a.b", ("HALF", "a", "x", ring), list(ring))
        self.fails(house, "a", ("HALF", "a", "x", ring), list(ring))


class TestDrawsOfPathsWithin(HouseCase):
    def test_the_module_begins(self):
        house = Within([{"a": (LINE,), "a.b": (("set", "y", 1),), "e": (LINE, ("draw", "k", "a", "b"))}])
        house.take("e")
        self.assertEqual(house.names_of(1), {"x": 1, "k": ("module", 3)})
        log = [("begin", 1, "e"), ("begin", 2, "a"), ("end", 2), ("begin", 3, "a.b"), ("end", 3), ("end", 1)]
        self.all_told(house, {"e": 1, "a": 2, "a.b": 3}, log, [(1, None, None), (2, 1, 1), (3, 1, 1)])
        self.assertEqual(house.names_of(2), {"x": 1, "b": ("module", 3)})

    def test_its_beginnings_are_not_taken_once_more(self):
        house = Within([dict(FOUR, e=(("draw", "k", "a.b.c", "d"),))])
        house.take("a.b.c")
        ahead = house.log()
        house.take("e")
        self.assertEqual(house.log(), ahead + [("begin", 4, "e"), ("have", 1), ("have", 2), ("have", 3), ("begin", 5, "a.b.c.d"), ("end", 5), ("end", 4)])

    def test_the_name_is_bound_in_the_parent_ahead_of_a_path_within(self):
        house = Within([{"a": (("set", "b", 7),), "a.b": (), "e": (("draw", "k", "a", "b"),)}])
        house.take("e")
        self.assertEqual(house.names_of(1), {"k": 7})
        self.assertEqual(house.table(), {"e": 1, "a": 2})

    def test_a_bound_child_is_drawn_without_a_taking(self):
        house = Within([{"a": (), "a.b": (), "e": (("draw", "k", "a", "b"),)}])
        house.take("a.b")
        house.take("e")
        self.assertEqual(house.log()[4:], [("begin", 3, "e"), ("have", 1), ("end", 3)])
        self.assertEqual(house.names_of(3), {"k": ("module", 2)})

    def test_one_that_the_table_has_and_its_parent_has_not_bound(self):
        house = second_parent()
        ahead = house.log()
        self.assertEqual(house.take("e"), 8)
        self.assertEqual(house.log(), ahead + [("begin", 8, "e"), ("have", 7), ("have", 2), ("end", 8)])
        self.assertEqual(house.names_of(8), {"k": ("module", 2)})
        self.assertEqual(house.names_of(7), {"k": ("module", 2), "m": ("module", 6)})

    def test_a_half_made_module_at_the_path_within(self):
        house = Within([{"a": (), "a.b": (LINE, ("take", "e", "e"), ("set", "y", 1)), "e": (("draw", "k", "a", "b"), ("now", "m", "k.x"), ("now", "n", "k.y"))}])
        self.fails(house, "a.b", ("HALF", "a.b", "y", (("a.b", 1), ("e", 2))), [("a.b", 1), ("e", 2)])
        self.assertEqual(house.names_of(3), {"k": ("module", 2), "m": 1})
        self.assertEqual(house.log()[4:6], [("have", 1), ("have", 2)])

    def test_out_of_a_half_made_module(self):
        house = Within([{"a": (LINE, ("take", "e", "e")), "a.b": (), "e": (("draw", "k", "a", "b"), ("draw", "m", "a", "q"))}])
        ring = (("a", 1), ("e", 1))
        self.fails(house, "a", ("HALF", "a", "q", ring), list(ring))
        self.assertEqual(house.names_of(1), {"x": 1, "b": ("module", 3)})
        self.assertEqual(house.table(), {"a.b": 3})

    def test_a_fault_of_its_body(self):
        house = Within([{"a": (LINE,), "a.b": (LINE, ("fail", "stop")), "e": (trying((("draw", "k", "a", "b"),), ("NONAME", "HALF", "NOMODULE")),)}])
        self.fails(house, "e", ("stop",), [("e", 0), ("a.b", 1)])
        self.assertEqual(house.table(), {"a": 2})
        self.assertEqual(house.names_of(2), {"x": 1})

    def test_where_no_finder_has_it(self):
        house = Within([{"a": (LINE,), "a.c": (), "e": (("draw", "k", "a", "b"),)}])
        self.fails(house, "e", ("NONAME", "a", "b"), [("e", 0)])

    def test_a_path_within_of_five_names_that_there_can_not_be(self):
        house = Within([dict(FOUR, e=(LINE, ("draw", "k", "a.b.c.d", "e")))])
        self.fails(house, "e", ("NONAME", "a.b.c.d", "e"), [("e", 1)])
        self.assertEqual(house.table(), {"a": 2, "a.b": 3, "a.b.c": 4, "a.b.c.d": 5})
        own = Within([dict(FOUR, **{"a.b.c.d": (("draw", "k", "a.b.c.d", "e"),)})])
        self.fails(own, "a.b.c.d", ("HALF", "a.b.c.d", "e", (("a.b.c.d", 0),)), [("a.b.c.d", 0)])

    def test_what_the_path_within_is_bound_to_when_its_body_binds_the_name_in_the_parent(self):
        # The module at the path within is the thing, whatever the parent's name is by then.
        house = Within([{"a": (("draw", "k", "a", "b"), ("set", "b", 3), ("draw", "m", "a", "b")), "a.b": ()}])
        house.take("a")
        self.assertEqual(house.names_of(1), {"k": ("module", 2), "m": 3, "b": 3})

    def test_only_draw_looks_for_paths_within(self):
        for row, fault in ((("now", "k", "a.b"), ("NONAME", "a", "b")), (("ask", "k", "a.b"), ("NONAME", "a", "b"))):
            house = Within([{"a": (), "a.b": (), "e": (("take", "a", "a"), row)}])
            self.fails(house, "e", fault, [("e", 1)])

    def test_in_a_second_finder(self):
        house = Within([{"a": (), "e": (("draw", "k", "a", "b"),)}, {"a.b": (LINE,), "a": (("fail", "never"),)}])
        house.take("e")
        self.assertEqual(house.thing("e", "k.x"), 1)


class TestTold(HouseCase):
    def test_finders_changed_behind_the_making(self):
        stock = {"a": (LINE,), "a.b": (LINE,), "e": (("draw", "k", "a", "b"),)}
        finders = [stock, {}]
        house = Within(finders)
        stock["a.b"] = (("fail", "stop"),)
        del stock["a"]
        stock["f"] = ()
        finders[1]["g"] = ()
        finders.append({"h": ()})
        house.take("e")
        self.assertEqual(house.table(), {"e": 1, "a": 2, "a.b": 3})
        for path in ("f", "g", "h"):
            self.fails(house, path, ("NOMODULE", path), [])
        finders.clear()
        self.assertEqual(house.take("a.b"), 3)

    def test_each_told_thing_is_the_askers_own(self):
        house = Within([{"a": (LINE, ("take", "k", "a.b"), ("late", "f", "x")), "a.b": (trying((("fail", "stop"),)),), "c": (("fail", "stop"),)}])
        house.take("a")
        self.assertRaises(Failed, house.take, "c")
        askings = [house.table, house.log, house.paper] + [lambda number=number: house.names_of(number) for number in (1, 2, 3)]
        ahead = [asking() for asking in askings]
        for asking in askings:
            thing = asking()
            if isinstance(thing, dict):
                thing["a"] = 99
            else:
                thing.append(99)
                thing[0] = 99
            asking().clear()
        self.assertEqual([asking() for asking in askings], ahead)

    def test_what_was_told_ahead_stays(self):
        house = Within([{"a": (LINE,), "a.b": (LINE,)}])
        house.take("a")
        told = [house.table(), house.log(), house.paper(), house.names_of(1)]
        house.take("a.b")
        self.assertEqual(told, [{"a": 1}, [("begin", 1, "a"), ("end", 1)], [(1, None, None)], {"x": 1}])


class TestMany(HouseCase):
    """Many houses of paths within paths, beside a machine of its own."""

    WORDS = ["set", "now", "take", "take", "take", "draw", "draw", "draw", "late", "ask", "note", "fail", "try", "try", "try", "try"]
    PATHS = ["a", "a.b", "a.b.c", "a.b.c.a", "b", "b.a", "c.a"]
    ROADS = ["a", "b", "x", "a.x", "b.x", "a.b", "a.b.c", "a.b.c.x", "b.a", "x.x"]

    def test_many(self):
        words = []
        for seed in range(3000):
            dice = Dice(seed)
            rows = Rows(dice, self.WORDS, ["a", "b", "c", "x"], self.PATHS, self.ROADS)
            finders = [{path: rows.body(4) for path in self.PATHS if dice.below(6)} for turn in range(1 + dice.below(2))]
            deeds = [(dice.one_of(("take", "take", "take", "thing", "ask")), dice.one_of(self.PATHS)) for turn in range(6)]
            deeds = [deed if deed[0] == "take" else deed + (dice.one_of(self.ROADS),) for deed in deeds]
            words += self.words_of_log(self.reckoned(Within, finders, deeds))
        for word in ("HALF", "NONAME", "FLAT", "NOTASK", "NOMODULE", "stop", "caught", "again", "end", "have"):
            self.assertGreater(words.count(word), 30, word)


if __name__ == "__main__":
    unittest.main()

"""Finders that are told other bodies, and modules that are let go."""

import copy
import itertools
import unittest

from halfmade.errors import Failed, NoBody, NoFinder, NoPath, NotTaken
from halfmade.house import House
from tests.houses_at_hand import HouseCase, all_of
from tests.test_tries import trying
from tests.things_at_hand import LINE, Sour, no_texts, no_tuples, tries

NO_PATHS = ["", ".", "A", "a ", "a.", ".a", "a..b", "a.b.c.d.e", "abcdefghi", "a\n", "a1"]


def no_finders():
    """Things that are no number of one of two finders."""
    return [2, 3, -1, -2, 10 ** 59, True, False, None, "", "0", "a", b"0", 0.0, 1.0, [], [0], (), (0,), {}, {0: 0}, set(), object(), int, Sour()]


def no_bodies():
    """Things that are no body, and not None."""
    wrong_rows = [("set", "x"), ("set", "x", True), ("Set", "x", 1), ["set", "x", 1], ("take", "x", "a..b"), ("fail", "ALL"), (), None, "x"]
    return [thing for thing in no_tuples() if thing is not None] + [(row,) for row in wrong_rows] + [
        LINE, [LINE], (LINE, None), (LINE,) * 41, tries(4), (("try", [], (), ()),), (("try", (), ("a", "a"), ()),)]


class TestPut(HouseCase):
    def test_in_the_place_of_another_body(self):
        house = House([{"a": (("set", "x", 1),)}])
        self.assertIsNone(house.put(0, "a", (("set", "y", 2),)))
        house.take("a")
        self.assertEqual(house.names_of(1), {"y": 2})

    def test_for_a_new_path(self):
        house = House([{}, {}])
        self.fails(house, "a", ("NOMODULE", "a"), [])
        house.put(1, "a", (LINE,))
        house.put(0, "a.b", ())
        self.assertEqual(house.take("a.b"), 2)
        self.assertEqual(house.names_of(1), {"x": 1, "b": ("module", 2)})

    def test_in_a_second_finder_behind_one_that_has_the_path(self):
        house = House([{"a": (("set", "x", 1),)}, {}])
        house.put(1, "a", (("set", "x", 2),))
        house.take("a")
        self.assertEqual(house.names_of(1), {"x": 1})

    def test_in_a_finder_ahead_of_one_that_has_the_path(self):
        house = House([{}, {"a": (("set", "x", 1),)}])
        house.put(0, "a", (("set", "x", 2),))
        house.take("a")
        self.assertEqual(house.names_of(1), {"x": 2})

    def test_forgotten_where_it_was(self):
        house = House([{"a": (LINE,), "b": ()}])
        self.assertIsNone(house.put(0, "a", None))
        self.fails(house, "a", ("NOMODULE", "a"), [])
        self.assertEqual(house.take("b"), 1)

    def test_forgotten_where_it_was_in_two(self):
        house = House([{"a": (("set", "x", 1),)}, {"a": (("set", "x", 2),)}])
        house.put(0, "a", None)
        self.assertEqual(house.take("a"), 1)
        self.assertEqual(house.names_of(1), {"x": 2})

    def test_forgotten_where_it_was_not(self):
        house = House([{"a": ()}, {}])
        for k, path in ((1, "a"), (0, "b"), (1, "a.b.c.d"), (1, "a")):
            self.assertIsNone(house.put(k, path, None))
        self.assertEqual(house.take("a"), 1)

    def test_forgotten_and_told_anew(self):
        house = House([{"a": ()}])
        house.put(0, "a", None)
        house.put(0, "a", None)
        house.put(0, "a", (LINE,))
        house.take("a")
        self.assertEqual(house.names_of(1), {"x": 1})

    def test_an_empty_body_is_a_body(self):
        house = House([{"a": (("fail", "stop"),)}, {"a": (("fail", "stop"),)}])
        house.put(0, "a", ())
        self.assertEqual(house.take("a"), 1)

    def test_what_stands_stays(self):
        house = House([{"a": (LINE, ("late", "f", "x")), "b": (("draw", "y", "a", "x"),)}])
        house.take("b")
        for body in ((("set", "x", 9),), (), None, (("fail", "stop"),)):
            self.changes_nothing(house, lambda: house.put(0, "a", body))
            self.assertEqual(house.take("a"), 2)
            self.assertEqual(house.ask("a", "f"), 1)

    def test_it_is_no_deed_and_has_no_entry(self):
        house = House([{"a": (trying((("take", "b", "b"),)),), "b": (("fail", "stop"),)}])
        house.take("a")
        self.changes_nothing(house, lambda: house.put(0, "b", (LINE,)))
        self.assertEqual(house.take("b"), 3)

    def test_a_path_within_by_what_the_finders_have_then(self):
        house = House([{"a": (), "e": (("draw", "k", "a", "b"),)}])
        self.fails(house, "e", ("NONAME", "a", "b"), [("e", 0)])
        house.put(0, "a.b", (LINE,))
        house.take("e")
        self.assertEqual(house.thing("e", "k.x"), 1)

    def test_the_handed_list_and_dicts_stay(self):
        finders = [{"a": (LINE,)}, {"b": ()}]
        as_handed = copy.deepcopy(finders)
        house = House(finders)
        house.put(0, "a", ())
        house.put(1, "a", (LINE,))
        house.put(1, "b", None)
        self.assertEqual(finders, as_handed)
        finders[1]["a"] = (("fail", "stop"),)
        finders.append({})
        self.refused(NoFinder, house.put, 2, "a", ())
        house.take("a")
        self.assertEqual(house.names_of(1), {})

    def test_two_houses_of_the_same_finders(self):
        finders = [{"a": (LINE,)}]
        one, other = House(finders), House(finders)
        one.put(0, "a", None)
        self.assertEqual(other.take("a"), 1)
        self.fails(one, "a", ("NOMODULE", "a"), [])


class TestPutRefused(HouseCase):
    def house(self):
        house = House([{"a": (LINE,), "b": ()}, {"c": ()}])
        house.take("a")
        return house

    def unchanged(self, house):
        """The finders are as they were made: b and c are taken as told, nothing else is there."""
        self.assertEqual([house.take("b"), house.take("c")], [2, 3])
        self.fails(house, "d", ("NOMODULE", "d"), [])

    def test_no_finder_goes_first(self):
        house = self.house()
        for k in no_finders():
            for path, body in (("b", ()), ("d", (LINE,)), ("b", None), ("A", ()), (None, None), ("b", 5), (7, [])):
                self.refused(NoFinder, house.put, k, path, body)
        self.unchanged(house)

    def test_without_finders_there_is_no_number(self):
        house = House([])
        for k in no_finders() + [0, 1]:
            self.refused(NoFinder, house.put, k, "a", ())

    def test_then_no_path(self):
        house = self.house()
        for path in no_texts() + NO_PATHS:
            for body in ((), (LINE,), None, 5, [], (None,)):
                self.refused(NoPath, house.put, 0, path, body)
        self.unchanged(house)

    def test_then_no_body(self):
        house = self.house()
        for body in no_bodies():
            for k, path in ((0, "b"), (0, "d"), (1, "b"), (1, "c")):
                self.refused(NoBody, house.put, k, path, body)
        self.unchanged(house)

    def test_each_finders_number_is_one(self):
        house = House([{} for turn in range(8)])
        for k in range(8):
            house.put(k, "abcdefgh"[k], (("set", "x", k),))
        for number, path in enumerate("abcdefgh", start=1):
            self.assertEqual(house.take(path), number)
            self.assertEqual(house.thing(path, "x"), number - 1)
        self.refused(NoFinder, house.put, 8, "a", ())


class TestLetGo(HouseCase):
    def test_it_leaves_the_table_and_nothing_else_changes(self):
        house = House([{"a": (LINE,), "b": (("take", "a", "a"),)}])
        house.take("b")
        ahead = (house.log(), house.paper(), house.names_of(1), house.names_of(2))
        self.assertIsNone(house.let_go("a"))
        self.assertEqual(house.table(), {"b": 1})
        self.assertEqual((house.log(), house.paper(), house.names_of(1), house.names_of(2)), ahead)
        self.assertEqual([house.state_of(1), house.state_of(2)], ["whole", "gone"])
        self.assertEqual(house.path_of(2), "a")

    def test_who_holds_the_module_holds_it(self):
        house = House([{"a": (LINE, ("late", "f", "x")), "b": (("take", "m", "a"), ("draw", "g", "a", "f"))}])
        house.take("b")
        house.let_go("a")
        self.assertEqual(house.thing("b", "m"), ("module", 2))
        self.assertEqual(house.thing("b", "m.x"), 1)
        self.assertEqual(house.ask("b", "g"), 1)
        self.assertEqual(house.ask("b", "m.f"), 1)

    def test_taken_again_it_is_another_module(self):
        house = House([{"a": (LINE, ("late", "f", "x")), "b": (("take", "m", "a"), ("draw", "g", "a", "f"))}])
        house.take("b")
        house.let_go("a")
        house.put(0, "a", (("set", "x", 2), ("late", "f", "x")))
        self.assertEqual(house.take("a"), 3)
        self.assertEqual(house.table(), {"b": 1, "a": 3})
        self.assertEqual([house.thing("b", "m.x"), house.ask("b", "g"), house.ask("a", "f")], [1, 1, 2])
        self.assertEqual([house.state_of(number) for number in (1, 2, 3)], ["whole", "gone", "whole"])
        self.assertEqual(house.log()[-2:], [("begin", 3, "a"), ("end", 3)])
        self.assertEqual(house.take("b"), 1)

    def test_its_state_is_gone_even_where_the_next_one_fails(self):
        house = House([{"a": (LINE,)}])
        house.take("a")
        house.let_go("a")
        house.put(0, "a", (("fail", "stop"),))
        self.fails(house, "a", ("stop",), [("a", 0)])
        self.assertEqual([house.state_of(1), house.state_of(2)], ["gone", "failed"])

    def test_one_that_failed_stays_failed(self):
        house = House([{"a": (LINE, ("take", "b", "b"), ("fail", "stop")), "b": ()}])
        self.assertRaises(Failed, house.take, "a")
        self.refused(NotTaken, house.let_go, "a")
        self.assertEqual(house.state_of(1), "failed")
        house.put(0, "a", ())
        self.assertEqual(house.take("a"), 3)
        house.let_go("a")
        self.assertEqual([house.state_of(number) for number in (1, 2, 3)], ["failed", "whole", "gone"])

    def test_of_what_does_not_stand(self):
        house = House([{"a": (), "b": (), "a.b": ()}])
        house.take("a")
        for path in ("b", "z", "a.b", "a.b.c.d"):
            self.changes_nothing(house, lambda: self.refused(NotTaken, house.let_go, path))
        house.let_go("a")
        self.refused(NotTaken, house.let_go, "a")

    def test_no_path(self):
        house = House([{"a": ()}])
        house.take("a")
        for thing in no_texts() + NO_PATHS:
            self.changes_nothing(house, lambda: self.refused(NoPath, house.let_go, thing))

    def test_nothing_is_asked_of_what_was_let_go(self):
        house = House([{"a": (LINE, ("late", "f", "x"))}])
        house.take("a")
        house.let_go("a")
        for action in ((house.thing, "a", "x"), (house.ask, "a", "f"), (house.let_go, "a"), (house.anew, "a")):
            self.refused(NotTaken, *action)

    def test_a_note_finds_none(self):
        house = House([{"a": (LINE,), "b": (("note", "a"),)}])
        house.take("a")
        house.let_go("a")
        house.take("b")
        self.assertIn(("note", 2, None), house.log())

    def test_an_elder_module_has_no_name(self):
        house = House([{"a": (LINE, ("take", "b", "b"), ("now", "y", "b.a.q")), "b": (("take", "a", "a"),)}])
        house.put(0, "a", (LINE, ("take", "b", "b")))
        house.take("a")
        house.let_go("a")
        house.put(0, "a", (LINE, ("take", "b", "b"), ("now", "y", "b.a.q")))
        self.fails(house, "a", ("NONAME", "a", "q"), [("a", 2)])
        self.assertEqual(house.names_of(2), {"a": ("module", 1)})


class TestParentsAndChildren(HouseCase):
    STOCK = {"a": (LINE,), "a.b": (("set", "y", 2),), "e": (("draw", "k", "a", "b"),)}

    def test_a_parent_let_go_while_its_child_stands_and_the_child_drawn(self):
        house = House([self.STOCK])
        house.take("a.b")
        house.let_go("a")
        self.assertEqual(house.table(), {"a.b": 2})
        ahead = house.log()
        house.take("e")
        self.assertEqual(house.log(), ahead + [("begin", 3, "e"), ("begin", 4, "a"), ("end", 4), ("have", 2), ("end", 3)])
        self.assertEqual(house.names_of(3), {"k": ("module", 2)})
        self.assertEqual(house.names_of(4), {"x": 1})
        self.assertEqual(house.names_of(1), {"x": 1, "b": ("module", 2)})

    def test_the_child_taken_begins_its_parent_alone(self):
        house = House([self.STOCK])
        house.take("a.b")
        house.let_go("a")
        ahead = house.log()
        self.assertEqual(house.take("a.b"), 2)
        self.assertEqual(house.log(), ahead + [("begin", 3, "a"), ("end", 3), ("have", 2)])
        self.assertEqual(house.names_of(3), {"x": 1})

    def test_a_child_let_go_is_still_bound_in_its_parent(self):
        house = House([self.STOCK])
        house.take("a.b")
        house.let_go("a.b")
        house.take("e")
        self.assertEqual(house.names_of(3), {"k": ("module", 2)})
        self.assertEqual(house.take("a.b"), 4)
        self.assertEqual(house.names_of(1), {"x": 1, "b": ("module", 4)})

    def test_a_child_that_no_finder_has_any_more(self):
        house = House([self.STOCK])
        house.take("a.b")
        house.put(0, "a.b", None)
        house.let_go("a")
        house.take("e")
        self.assertEqual(house.names_of(3), {"k": ("module", 2)})
        house.let_go("a")
        house.let_go("e")
        house.let_go("a.b")
        self.fails(house, "e", ("NONAME", "a", "b"), [("e", 0)])

    def test_a_parent_that_no_finder_has_any_more(self):
        house = House([self.STOCK])
        house.take("a.b")
        house.let_go("a")
        house.put(0, "a", None)
        self.fails(house, "a.b", ("NOMODULE", "a"), [])
        self.assertEqual(house.thing("a.b", "y"), 2)

    def test_both_let_go(self):
        house = House([self.STOCK])
        house.take("a.b")
        house.let_go("a.b")
        house.let_go("a")
        self.assertEqual(house.take("a.b"), 4)
        self.assertEqual(house.names_of(3), {"x": 1, "b": ("module", 4)})
        self.assertEqual(house.names_of(1), {"x": 1, "b": ("module", 2)})
        self.assertEqual([house.state_of(number) for number in (1, 2, 3, 4)], ["gone", "gone", "whole", "whole"])


class TestAllPutsAndLettings(HouseCase):
    """Each row of four deeds out of a few, beside a machine of its own."""

    def test_all(self):
        finders = [{"a": (LINE, ("take", "b", "b")), "b": (("draw", "y", "a", "x"),)}, {"b": (("take", "a", "a"),)}]
        deeds = [("take", "a"), ("take", "b"), ("let_go", "a"), ("let_go", "b"), ("put", 0, "b", None), ("put", 0, "a", (("take", "b", "b"), LINE)),
                 ("anew", "a"), ("anew", "b")]
        for four in itertools.product(deeds, repeat=4):
            self.reckoned(House, finders, four)

    def test_nothing_is_done_in_a_new_house(self):
        self.assertEqual(all_of(House([{"a": ()}])), ({}, [], [], []))


if __name__ == "__main__":
    unittest.main()

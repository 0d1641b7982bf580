import copy
import itertools
import unittest

from halfmade.errors import Failed, NoBody, NoFinder, NoNumber, NoPath
from halfmade.runs import Runs
from tests.runs_at_hand import RunsCase, stepwise
from tests.things_at_hand import LINE, SIXTY, Sour, no_texts, tries

# A name for each of the sixteen paths that a house may have.
SIXTEEN = list("abcdefghijklmnop")
NO_PATHS = ["", ".", "A", "a ", " a", "a.", ".a", "a..b", "a.b.c.d.e", "abcdefghi", "a\n", "a1", "\u00e9", "a-b"]


def no_numbers():
    return [0, -1, -2, True, False, None, 1.0, 2.0, float("nan"), "", "1", "a", b"1", [], [1], (), (1,), {}, {1: 1},
            set(), {1}, object(), int, Sour(), SIXTY, -SIXTY]


class TestMaking(RunsCase):
    def test_without_finders(self):
        for finders in ([], [{}], [{}, {}]):
            runs = Runs(finders)
            self.all_told(runs, table={}, log=[], paper=[])
            self.fails(runs, "a", ("NOMODULE", "a"), [])
            self.all_told(runs, table={}, log=[], paper=[])

    def test_no_list_of_dicts(self):
        for thing in no_texts() + ["", "a", {"a": ()}, ({"a": ()},), ({},), [None], [{}, None], [None, {}], [{}, []],
                                   [[]], [()], [("a", ())], ["a"], [{"a": ()}, ("b", ())], [{}, {}, "a"], [Sour()]]:
            if isinstance(thing, list) and not thing:
                continue
            with self.assertRaises(NoFinder, msg=type(thing)):
                Runs(thing)

    def test_keys_that_are_no_paths(self):
        keys = [key for key in no_texts() if type(key).__hash__] + NO_PATHS + [("a",), (), frozenset()]
        for key in keys:
            for finders in ([{key: ()}], [{"a": (), key: ()}], [{}, {"a": ()}, {key: (LINE,)}], [{key: ()}, {}]):
                with self.assertRaises(NoPath, msg=repr(key)):
                    Runs(finders)

    def test_values_that_are_no_bodies(self):
        bodies = no_texts() + ["set x 1\n", "", [LINE], LINE, (LINE, None), (None,), ((),), (("set", "x", True),),
                               (["set", "x", 1],), (("set", "x"),), (LINE,) * 41, tries(4)]
        for body in bodies:
            if isinstance(body, tuple) and not body:
                continue
            for finders in ([{"a": body}], [{"a": (), "b": body}], [{}, {"a": ()}, {"b": body}], [{"a": body}, {"a": ()}]):
                with self.assertRaises(NoBody, msg=repr(body)):
                    Runs(finders)

    def test_which_refusal_goes_first(self):
        wrong_key, wrong_body = {"A": ()}, {"a": None}
        for finders in ([wrong_key, None], [None, wrong_key], [wrong_body, None], [None, wrong_body],
                        [wrong_body, wrong_key, None], (wrong_key,), (wrong_body,), wrong_key, wrong_body):
            self.assertRaises(NoFinder, Runs, finders)
        for finders in ([wrong_body, wrong_key], [wrong_key, wrong_body], [{"a": None, "A": ()}], [{"A": (), "a": None}],
                        [{"A": None}], [{1: None}], [{}, wrong_body, {"a": ()}, wrong_key]):
            self.assertRaises(NoPath, Runs, finders)

    def test_paths_of_several_names_and_bodies_of_all_rows_are_no_refusal(self):
        rows = (("now", "x", "y"), ("draw", "x", "a", "y"), ("late", "x", "y"), ("ask", "x", "y"), ("fail", "x"))
        Runs([{"a.b.c.d": rows, "abcdefgh": tries(3)}])

    def test_bodies_at_their_limit(self):
        runs = Runs([{"a": (LINE,) * 40, "b": ()}])
        self.assertEqual(runs.take("a"), 1)
        self.assertEqual(runs.take("b"), 2)

    def test_finders_stay_as_they_were(self):
        finders = [{"a": (("take", "b", "b"),)}, {"b": (LINE,), "c": ()}, {}]
        as_they_were = copy.deepcopy(finders)
        runs = Runs(finders)
        runs.take("a")
        self.assertRaises(Failed, runs.take, "z")
        self.assertEqual(finders, as_they_were)
        self.assertEqual([list(finder) for finder in finders], [["a"], ["b", "c"], []])

    def test_finders_changed_behind_the_making(self):
        finders = [{"a": (("take", "b", "b"),)}, {"b": (LINE,)}]
        runs = Runs(finders)
        finders[0]["b"] = (("set", "y", 2),)
        finders[0]["a"] = ()
        finders[1].clear()
        finders.insert(0, {"a": (("note", "a"),)})
        finders.append({"z": ()})
        self.assertEqual(runs.take("a"), 1)
        self.assertEqual(runs.names_of(1), {"b": ("module", 2)})
        self.assertEqual(runs.names_of(2), {"x": 1})
        finders.clear()
        self.fails(runs, "z", ("NOMODULE", "z"), [])
        self.assertEqual(runs.take("b"), 2)

    def test_houses_of_the_same_finders_are_apart(self):
        finders = [{"a": (), "b": (("take", "a", "a"),)}]
        one, other = Runs(finders), Runs(finders)
        one.take("a")
        self.all_told(other, table={}, log=[], paper=[])
        other.take("b")
        self.assertEqual(one.table(), {"a": 1})
        self.assertEqual(other.table(), {"b": 1, "a": 2})

    def test_the_same_path_in_two_finders(self):
        first, second, third = (("set", "x", 1),), (("set", "x", 2),), (("set", "x", 3),)
        for finders, thing in (([{"a": first}, {"a": second}], 1), ([{"a": second}, {"a": first}], 2),
                               ([{}, {"a": third}, {"a": first}], 3), ([{"b": first}, {"a": third, "b": ()}], 3)):
            runs = Runs(finders)
            runs.take("a")
            self.assertEqual(runs.names_of(1), {"x": thing})

    def test_an_empty_body_is_found_too(self):
        runs = Runs([{"a": ()}, {"a": (LINE,)}])
        runs.take("a")
        self.assertEqual(runs.names_of(1), {})


class TestTaking(RunsCase):
    def test_from_outside(self):
        runs = Runs([{"a": (("set", "x", 1), ("set", "y", -2))}])
        self.assertEqual(runs.take("a"), 1)
        self.all_told(runs, table={"a": 1}, log=[("begin", 1, "a"), ("end", 1)], paper=[(1, None, None)])
        self.assertEqual(runs.names_of(1), {"x": 1, "y": -2})
        self.assertEqual(runs.path_of(1), "a")
        self.assertEqual(runs.state_of(1), "whole")

    def test_taken_again(self):
        runs = Runs([{"a": (LINE,)}])
        for turn in range(3):
            self.assertEqual(runs.take("a"), 1)
        log = [("begin", 1, "a"), ("end", 1), ("have", 1), ("have", 1)]
        self.all_told(runs, table={"a": 1}, log=log, paper=[(1, None, None)])

    def test_from_rows(self):
        runs = Runs([{"a": (LINE, ("take", "m", "b"), ("take", "n", "c")), "b": (("take", "c", "c"),), "c": ()}])
        self.assertEqual(runs.take("a"), 1)
        log = [("begin", 1, "a"), ("begin", 2, "b"), ("begin", 3, "c"), ("end", 3), ("end", 2), ("have", 3), ("end", 1)]
        self.all_told(runs, table={"a": 1, "b": 2, "c": 3}, log=log, paper=[(1, None, None), (2, 1, 1), (3, 2, 0)])
        self.assertEqual(runs.names_of(1), {"x": 1, "m": ("module", 2), "n": ("module", 3)})
        self.assertEqual(runs.names_of(2), {"c": ("module", 3)})

    def test_a_name_is_bound_behind_the_taking(self):
        runs = Runs([{"a": (("take", "b", "b"), ("note", "a")), "b": (("note", "a"),)}])
        runs.take("a")
        self.assertEqual([entry for entry in runs.log() if entry[0] == "note"], [("note", 2, ()), ("note", 1, ("b",))])

    def test_bound_again_by_a_later_row(self):
        runs = Runs([{"a": (("set", "x", 1), ("take", "x", "b"), ("take", "y", "b"), ("set", "y", 2)), "b": ()}])
        runs.take("a")
        self.assertEqual(runs.names_of(1), {"x": ("module", 2), "y": 2})

    def test_of_itself(self):
        runs = Runs([{"a": (LINE, ("take", "me", "a"), ("note", "a"))}])
        self.assertEqual(runs.take("a"), 1)
        log = [("begin", 1, "a"), ("have", 1), ("note", 1, ("me", "x")), ("end", 1)]
        self.all_told(runs, table={"a": 1}, log=log, paper=[(1, None, None)])
        self.assertEqual(runs.names_of(1), {"x": 1, "me": ("module", 1)})

    def test_of_one_another(self):
        finders = [{"a": (("set", "x", 1), ("take", "b", "b"), ("set", "y", 2)),
                    "b": (("note", "a"), ("take", "a", "a"), ("note", "a"))}]
        runs = Runs(finders)
        runs.take("a")
        log = [("begin", 1, "a"), ("begin", 2, "b"), ("note", 2, ("x",)), ("have", 1), ("note", 2, ("x",)), ("end", 2),
               ("end", 1)]
        self.all_told(runs, table={"a": 1, "b": 2}, log=log, paper=[(1, None, None), (2, 1, 1)])
        self.assertEqual(runs.names_of(1), {"x": 1, "b": ("module", 2), "y": 2})
        other = Runs(finders)
        other.take("b")
        log = [("begin", 1, "b"), ("note", 1, None), ("begin", 2, "a"), ("have", 1), ("end", 2), ("note", 1, ("b", "x", "y")),
               ("end", 1)]
        self.all_told(other, table={"a": 2, "b": 1}, log=log, paper=[(1, None, None), (2, 1, 1)])
        self.assertEqual(other.names_of(1), {"a": ("module", 2)})

    def test_in_rings(self):
        names = SIXTEEN[:5]
        stock = {name: (("note", name), ("take", "next", other))
                 for name, other in zip(names, names[1:] + names[:1])}
        for begun in range(5):
            runs = Runs([stock])
            runs.take(names[begun])
            order = names[begun:] + names[:begun]
            self.assertEqual(runs.table(), {name: at for at, name in enumerate(order, start=1)})
            self.assertEqual(runs.paper(), [(1, None, None)] + [(at, at - 1, 1) for at in range(2, 6)])
            begins = [entry for at, name in enumerate(order, start=1) for entry in (("begin", at, name), ("note", at, ()))]
            self.assertEqual(runs.log(), begins + [("have", 1)] + [("end", at) for at in (5, 4, 3, 2, 1)])
            self.assertEqual([runs.names_of(at) for at in range(1, 6)], [{"next": ("module", at)} for at in (2, 3, 4, 5, 1)])

    def test_sixteen_in_a_row(self):
        stock = {name: (LINE, ("take", "next", other)) for name, other in zip(SIXTEEN, SIXTEEN[1:])}
        stock["p"] = (("take", "first", "a"),)
        runs = Runs([stock])
        self.assertEqual(runs.take("a"), 1)
        begins = [("begin", at, name) for at, name in enumerate(SIXTEEN, start=1)]
        log = begins + [("have", 1)] + [("end", at) for at in range(16, 0, -1)]
        paper = [(1, None, None)] + [(at, at - 1, 1) for at in range(2, 17)]
        self.all_told(runs, table={name: at for at, name in enumerate(SIXTEEN, start=1)}, log=log, paper=paper)

    def test_somewhat_more_than_sixteen_in_a_row(self):
        names = SIXTEEN + ["a" + name for name in SIXTEEN]
        stock = {name: (("take", "next", other),) for name, other in zip(names, names[1:] + names[:1])}
        self.assertEqual(Runs([stock]).take("a"), 1)

    def test_sixteen_of_eight_finders(self):
        finders = [{SIXTEEN[at]: (("take", "n", SIXTEEN[at + 8]),), SIXTEEN[at + 8]: (("set", "x", at),)} for at in range(8)]
        runs = Runs(finders)
        self.assertEqual([runs.take(name) for name in SIXTEEN[:8]], [1, 3, 5, 7, 9, 11, 13, 15])
        self.assertEqual([runs.take(name) for name in SIXTEEN[8:]], [2, 4, 6, 8, 10, 12, 14, 16])
        self.assertEqual([runs.names_of(number) for number in range(2, 17, 2)], [{"x": at} for at in range(8)])

    def test_rows_in_order_and_numbers_of_rows(self):
        stock = {"a": tuple(("take", name, name) for name in "dcb"), "b": (), "c": (), "d": (LINE, LINE, ("take", "e", "e")),
                 "e": ()}
        runs = Runs([stock])
        runs.take("a")
        self.assertEqual(runs.table(), {"a": 1, "d": 2, "e": 3, "c": 4, "b": 5})
        self.assertEqual(runs.paper(), [(1, None, None), (2, 1, 0), (3, 2, 2), (4, 1, 1), (5, 1, 2)])

    def test_words_of_rows_as_names(self):
        runs = Runs([{"take": (("set", "set", 1), ("take", "take", "note")), "note": (("note", "take"),)}])
        runs.take("take")
        self.assertEqual(runs.names_of(1), {"set": 1, "take": ("module", 2)})
        self.assertIn(("note", 2, ("set",)), runs.log())

    def test_no_path(self):
        runs = Runs([{"a": (LINE,)}])
        runs.take("a")
        ahead = (runs.table(), runs.log(), runs.paper())
        for thing in no_texts() + NO_PATHS:
            self.assertRaises(NoPath, runs.take, thing)
        self.assertEqual((runs.table(), runs.log(), runs.paper()), ahead)


class TestNotes(RunsCase):
    def noted(self, runs):
        return [entry for entry in runs.log() if entry[0] == "note"]

    def test_of_a_whole_one(self):
        runs = Runs([{"a": (("set", "y", 1), ("set", "x", 1), ("take", "w", "a"), ("set", "x", 2)), "b": (("note", "a"),)}])
        runs.take("a")
        runs.take("b")
        self.assertEqual(self.noted(runs), [("note", 2, ("w", "x", "y"))])

    def test_of_one_without_names(self):
        runs = Runs([{"a": (), "b": (("note", "a"),)}])
        runs.take("a")
        runs.take("b")
        self.assertEqual(self.noted(runs), [("note", 2, ())])

    def test_of_a_half_made_one(self):
        runs = Runs([{"a": (("set", "z", 1), ("set", "x", 1), ("take", "b", "b"), ("note", "a")), "b": (("note", "a"), ("note", "b"))}])
        runs.take("a")
        self.assertEqual(self.noted(runs), [("note", 2, ("x", "z")), ("note", 2, ()), ("note", 1, ("b", "x", "z"))])

    def test_of_a_missing_one_takes_nothing(self):
        runs = Runs([{"a": (("note", "b"), ("note", "z"), ("note", "b.c")), "b": (LINE,)}])
        runs.take("a")
        log = [("begin", 1, "a"), ("note", 1, None), ("note", 1, None), ("note", 1, None), ("end", 1)]
        self.all_told(runs, table={"a": 1}, log=log, paper=[(1, None, None)])

    def test_of_a_failed_one(self):
        runs = Runs([{"a": (LINE, ("take", "z", "z")), "b": (("note", "a"),)}])
        self.fails(runs, "a", ("NOMODULE", "z"), [("a", 1)])
        runs.take("b")
        self.assertEqual(self.noted(runs), [("note", 2, None)])

    def test_binds_nothing(self):
        runs = Runs([{"a": (("note", "a"),)}])
        runs.take("a")
        self.assertEqual(runs.names_of(1), {})

    def test_stays_as_it_was_noted(self):
        runs = Runs([{"a": (("note", "a"), LINE, ("note", "a"))}])
        runs.take("a")
        self.assertEqual(self.noted(runs), [("note", 1, ()), ("note", 1, ("x",))])


class TestFailing(RunsCase):
    def test_no_module_from_outside(self):
        runs = Runs([{"a": (LINE,)}])
        for turn in range(2):
            self.fails(runs, "b", ("NOMODULE", "b"), [])
        runs.take("a")
        self.fails(runs, "b", ("NOMODULE", "b"), [])
        self.all_told(runs, table={"a": 1}, log=[("begin", 1, "a"), ("end", 1)], paper=[(1, None, None)])

    def test_no_module_from_a_row(self):
        runs = Runs([{"a": (LINE, ("take", "z", "z"), ("set", "y", 2))}])
        self.fails(runs, "a", ("NOMODULE", "z"), [("a", 1)])
        log = [("begin", 1, "a"), ("fail", 1, ("NOMODULE", "z"))]
        self.all_told(runs, table={}, log=log, paper=[(1, None, None)])
        self.assertEqual(runs.names_of(1), {"x": 1})
        self.assertEqual(runs.state_of(1), "failed")
        self.assertEqual(runs.path_of(1), "a")

    def test_every_waiting_body_fails_by_the_same_fault(self):
        finders = [{"a": (LINE, ("take", "b", "b"), LINE), "b": (("take", "d", "d"), LINE, ("take", "c", "c")),
                    "c": (("take", "a", "a"), ("take", "z", "z")), "d": (("set", "y", 3),)}]
        runs = Runs(finders)
        fault = ("NOMODULE", "z")
        self.fails(runs, "a", fault, [("a", 1), ("b", 2), ("c", 1)])
        log = [("begin", 1, "a"), ("begin", 2, "b"), ("begin", 3, "d"), ("end", 3), ("begin", 4, "c"), ("have", 1),
               ("fail", 4, fault), ("fail", 2, fault), ("fail", 1, fault)]
        self.all_told(runs, table={"d": 3}, log=log, paper=[(1, None, None), (2, 1, 1), (3, 2, 0), (4, 2, 2)])
        self.assertEqual([runs.state_of(number) for number in (1, 2, 3, 4)], ["failed", "failed", "whole", "failed"])
        self.assertEqual([runs.names_of(number) for number in (1, 2, 3, 4)],
                         [{"x": 1}, {"d": ("module", 3), "x": 1}, {"y": 3}, {"a": ("module", 1)}])

    def test_who_ended_whole_keeps_a_failed_module(self):
        runs = Runs([{"a": (LINE, ("take", "b", "b"), ("take", "z", "z")), "b": (("take", "a", "a"),)}])
        self.fails(runs, "a", ("NOMODULE", "z"), [("a", 2)])
        self.assertEqual(runs.table(), {"b": 2})
        self.assertEqual(runs.names_of(2), {"a": ("module", 1)})
        self.assertEqual(runs.names_of(1), {"x": 1, "b": ("module", 2)})
        self.assertEqual(runs.state_of(1), "failed")
        self.fails(runs, "a", ("NOMODULE", "z"), [("a", 2)])
        self.assertEqual(runs.names_of(2), {"a": ("module", 1)})
        self.assertEqual(runs.names_of(3), {"x": 1, "b": ("module", 2)})

    def test_numbers_go_on_and_a_path_is_begun_anew_in_the_next_deed(self):
        runs = Runs([{"a": (("take", "b", "b"),), "b": (("take", "z", "z"),), "c": ()}])
        fault = ("NOMODULE", "z")
        self.fails(runs, "a", fault, [("a", 0), ("b", 0)])
        self.fails(runs, "b", fault, [("b", 0)])
        self.assertEqual(runs.take("c"), 4)
        self.fails(runs, "a", fault, [("a", 0), ("b", 0)])
        self.assertEqual(runs.table(), {"c": 4})
        self.assertEqual([runs.path_of(number) for number in range(1, 7)], ["a", "b", "b", "c", "a", "b"])
        self.assertEqual([runs.state_of(number) for number in range(1, 7)], ["failed"] * 3 + ["whole"] + ["failed"] * 2)
        self.assertEqual(runs.paper(), [(1, None, None), (2, 1, 0), (3, None, None), (4, None, None), (5, None, None), (6, 5, 0)])
        self.assertEqual([entry[0] for entry in runs.log()].count("again"), 0)

    def test_sixteen_that_fail_in_a_row(self):
        stock = {name: (("take", "n", other),) for name, other in zip(SIXTEEN, SIXTEEN[1:] + ["z"])}
        runs = Runs([stock])
        fault = ("NOMODULE", "z")
        self.fails(runs, "a", fault, [(name, 0) for name in SIXTEEN])
        self.assertEqual(runs.table(), {})
        begins = [("begin", at, name) for at, name in enumerate(SIXTEEN, start=1)]
        self.assertEqual(runs.log(), begins + [("fail", at, fault) for at in range(16, 0, -1)])

    def test_each_road_is_the_askers_own(self):
        runs = Runs([{"a": (("take", "z", "z"),)}])
        first = self.fails(runs, "a", ("NOMODULE", "z"), [("a", 0)])
        second = self.fails(runs, "a", ("NOMODULE", "z"), [("a", 0)])
        first.road.append("x")
        self.assertEqual(second.road, [("a", 0)])
        self.fails(runs, "a", ("NOMODULE", "z"), [("a", 0)])

    def test_a_deed_that_fails_leaves_no_body_under_way(self):
        runs = Runs([{"a": (("take", "b", "b"),), "b": (("take", "z", "z"),), "c": (("take", "d", "d"),), "d": ()}])
        self.assertRaises(Failed, runs.take, "a")
        runs.take("c")
        self.assertEqual(runs.paper()[2:], [(3, None, None), (4, 3, 0)])


class Patient(Runs):
    """Catches each fault in the first rows of a try, so that a deed goes on behind it."""

    def do(self, row):
        if row[0] != "try":
            super().do(row)
            return
        try:
            for inner in row[1]:
                self.do_row(inner)
        except Failed:
            pass


class TestWithinOneDeed(RunsCase):
    """What point 11 tells of a deed that goes on behind a fault."""

    def tried(self, *rows):
        return ("try", rows, ("ALL",), ())

    def test_a_failed_path_is_not_begun_again(self):
        fault = ("NOMODULE", "z")
        runs = Patient([{"a": (self.tried(("take", "b", "b")), self.tried(("take", "b", "b")), ("take", "b", "b")),
                         "b": (LINE, ("take", "z", "z"))}])
        self.fails(runs, "a", fault, [("a", 2)])
        log = [("begin", 1, "a"), ("begin", 2, "b"), ("fail", 2, fault), ("again", 2), ("again", 2), ("fail", 1, fault)]
        self.all_told(runs, table={}, log=log, paper=[(1, None, None), (2, 1, 0)])

    def test_nor_by_another_body(self):
        fault = ("NOMODULE", "z")
        runs = Patient([{"a": (self.tried(("take", "b", "b")), ("take", "c", "c")), "b": (("take", "z", "z"),),
                         "c": (LINE, ("take", "b", "b"))}])
        self.fails(runs, "a", fault, [("a", 1), ("c", 1)])
        self.assertEqual(runs.log()[3:], [("begin", 3, "c"), ("again", 2), ("fail", 3, fault), ("fail", 1, fault)])

    def test_begun_anew_in_the_next_deed(self):
        runs = Patient([{"a": (self.tried(("take", "b", "b")), self.tried(("take", "b", "b"))), "b": (("take", "z", "z"),)}])
        self.assertEqual(runs.take("a"), 1)
        self.assertRaises(Failed, runs.take, "b")
        self.assertEqual(runs.paper(), [(1, None, None), (2, 1, 0), (3, None, None)])
        self.assertEqual([runs.state_of(number) for number in (1, 2, 3)], ["whole", "failed", "failed"])

    def test_a_missing_path_has_no_entry(self):
        runs = Patient([{"a": (self.tried(("take", "z", "z")), self.tried(("take", "z", "z")), LINE)}])
        runs.take("a")
        self.all_told(runs, table={"a": 1}, log=[("begin", 1, "a"), ("end", 1)], paper=[(1, None, None)])

    def test_the_chain_is_as_it_was_behind_a_body_that_failed(self):
        runs = Patient([{"a": (self.tried(("take", "b", "b")), LINE, ("take", "d", "d")), "b": (("take", "c", "c"),),
                         "c": (("take", "z", "z"),), "d": ()}])
        runs.take("a")
        self.assertEqual(runs.names_of(1), {"x": 1, "d": ("module", 4)})
        self.assertEqual(runs.paper(), [(1, None, None), (2, 1, 0), (3, 2, 0), (4, 1, 2)])


class TestNumbers(RunsCase):
    def runs(self):
        runs = Runs([{"a": (LINE, ("take", "b", "b"), ("take", "z", "z")), "b": (("set", "y", SIXTY),)}])
        self.assertRaises(Failed, runs.take, "a")
        return runs

    def test_whole_and_failed_ones(self):
        runs = self.runs()
        self.assertEqual([runs.path_of(1), runs.path_of(2)], ["a", "b"])
        self.assertEqual([runs.state_of(1), runs.state_of(2)], ["failed", "whole"])
        self.assertEqual([runs.names_of(1), runs.names_of(2)], [{"x": 1, "b": ("module", 2)}, {"y": SIXTY}])

    def test_no_number(self):
        for runs, beyond in ((self.runs(), 3), (Runs([]), 1), (Runs([{"a": ()}]), 1)):
            for thing in no_numbers() + [beyond, beyond + 1]:
                for action in (runs.path_of, runs.names_of, runs.state_of):
                    with self.assertRaises(NoNumber, msg=repr(thing)):
                        action(thing)

    def test_a_number_is_none_until_it_is_used(self):
        runs = Runs([{"a": ()}])
        self.assertRaises(NoNumber, runs.path_of, 1)
        runs.take("a")
        self.assertEqual(runs.path_of(1), "a")
        self.assertRaises(NoNumber, runs.path_of, 2)


class TestTold(RunsCase):
    def runs(self):
        runs = Runs([{"a": (LINE, ("take", "b", "b"), ("note", "a")), "b": (), "c": (LINE, ("take", "z", "z"))}])
        runs.take("a")
        self.assertRaises(Failed, runs.take, "c")
        return runs

    def test_each_told_thing_is_the_askers_own(self):
        runs = self.runs()
        askings = [runs.table, runs.log, runs.paper] + [lambda number=number: runs.names_of(number) for number in (1, 2, 3)]
        ahead = [asking() for asking in askings]
        for asking in askings:
            thing = asking()
            if isinstance(thing, dict):
                thing["a"] = 99
                thing["q"] = 99
            else:
                thing.append(99)
                thing[0] = 99
            asking().clear()
        self.assertEqual([asking() for asking in askings], ahead)
        self.assertEqual(runs.take("b"), 2)
        self.assertRaises(NoNumber, runs.path_of, 99)

    def test_what_was_told_ahead_stays(self):
        runs = Runs([{"a": (LINE, ("take", "b", "b")), "b": (), "c": (("take", "a", "a"), ("take", "z", "z"))}])
        runs.take("b")
        told = [runs.table(), runs.log(), runs.paper(), runs.names_of(1)]
        as_told = copy.deepcopy(told)
        runs.take("a")
        self.assertRaises(Failed, runs.take, "c")
        self.assertEqual(told, as_told)

    def test_kinds(self):
        runs = self.runs()
        self.assertEqual([type(runs.table()), type(runs.log()), type(runs.paper()), type(runs.names_of(1))],
                         [dict, list, list, dict])
        for entry in runs.log() + runs.paper():
            self.assertIs(type(entry), tuple)
            hash(entry)
        self.assertIs(type(runs.take("a")), int)

    def test_asked_twice_it_is_told_alike(self):
        runs = self.runs()
        for asking in (runs.table, runs.log, runs.paper):
            self.assertEqual(asking(), asking())
        for number in (1, 2, 3):
            for asking in (runs.path_of, runs.names_of, runs.state_of):
                self.assertEqual(asking(number), asking(number))

    def test_asking_changes_nothing(self):
        runs = self.runs()
        ahead = (runs.table(), runs.log(), runs.paper())
        for thing in no_numbers() + [1, 2, 3]:
            for asking in (runs.path_of, runs.names_of, runs.state_of):
                try:
                    asking(thing)
                except NoNumber:
                    pass
        self.assertEqual((runs.table(), runs.log(), runs.paper()), ahead)


class TestAllSmallStocks(RunsCase):
    """Every stock of two short bodies, and some of three, run beside a stepwise reckoning."""

    def compare(self, stock, takings):
        runs = Runs([stock])
        outcomes = []
        for path in takings:
            try:
                outcomes.append(runs.take(path))
            except Failed as failed:
                outcomes.append((failed.fault, failed.road))
        reckoned = stepwise(stock, takings)
        numbers = range(1, len(runs.paper()) + 1)
        names = [runs.names_of(number) for number in numbers]
        states = [runs.state_of(number) for number in numbers]
        self.assertEqual((outcomes, runs.table(), runs.log(), runs.paper(), names, states), reckoned, (stock, takings))
        self.lies_within_one_another(runs)

    def test_two_bodies(self):
        rows = [("set", "x", 1), ("take", "y", "a"), ("take", "y", "b"), ("take", "w", "z"), ("note", "a"), ("note", "b")]
        bodies = [body for many in range(3) for body in itertools.product(rows, repeat=many)]
        for one, other in itertools.product(bodies, repeat=2):
            self.compare({"a": one, "b": other}, ["a", "b", "a"])

    def test_three_bodies(self):
        rows = [("take", "x", "a"), ("take", "y", "b"), ("take", "v", "c"), ("take", "w", "z")]
        bodies = [body for many in range(3) for body in itertools.product(rows, repeat=many)]
        for bodies_of_three in itertools.product(bodies, repeat=3):
            self.compare(dict(zip("abc", bodies_of_three)), ["b", "a", "c", "b"])


if __name__ == "__main__":
    unittest.main()

"""Fail rows, and tries: which fault is caught by which one."""

import itertools
import unittest

from halfmade.errors import Failed
from halfmade.tries import Tries
from tests.houses_at_hand import Dice, HouseCase, Rows
from tests.things_at_hand import LINE

WORDS = ("NOMODULE", "NONAME", "HALF", "FLAT", "NOTASK", "stop")
# A row for each word, with the fault that it has in the first row of a body at the path a.
FAULTS = {
    "NOMODULE": (("take", "q", "z"), ("NOMODULE", "z")),
    "NONAME": (("draw", "q", "e", "q"), ("NONAME", "e", "q")),
    "HALF": (("now", "q", "q"), ("HALF", "a", "q", (("a", 0),))),
    "FLAT": (("ask", "q", "n.q"), ("FLAT", "a", "n")),
    "NOTASK": (("ask", "q", "n"), ("NOTASK", "a", "n")),
    "stop": (("fail", "stop"), ("stop",)),
}


def trying(first, words=("ALL",), last=()):
    return ("try", tuple(first), tuple(words), tuple(last))


class TestFail(HouseCase):
    def test_the_fault_is_the_name_alone(self):
        for name in ("a", "stop", "abcdefgh", "all", "half"):
            house = Tries([{"a": (LINE, ("fail", name), ("set", "y", 1))}])
            self.fails(house, "a", (name,), [("a", 1)])
            self.all_told(house, {}, [("begin", 1, "a"), ("fail", 1, (name,))], [(1, None, None)])
            self.assertEqual(house.names_of(1), {"x": 1})

    def test_it_goes_through_all_that_wait(self):
        house = Tries([{"a": (LINE, ("take", "b", "b")), "b": (("draw", "c", "c", "x"),), "c": (LINE, LINE, ("fail", "stop"))}])
        self.fails(house, "a", ("stop",), [("a", 1), ("b", 0), ("c", 2)])
        self.assertEqual(house.log()[3:], [("fail", number, ("stop",)) for number in (3, 2, 1)])


class TestWords(HouseCase):
    def house(self, word, words, last=(("set", "y", 2),)):
        first = (("set", "n", 0), FAULTS[word][0], ("set", "w", 1))
        return Tries([{"a": (trying(first, words, last), ("set", "v", 3)), "e": ()}])

    def caught(self, word, words):
        house = self.house(word, words)
        self.assertEqual(house.take("a"), 1)
        self.assertEqual(house.names_of(1), {"n": 0, "y": 2, "v": 3})
        self.assertIn(("caught", 1, 0, word), house.log())
        self.assertEqual(house.state_of(1), "whole")

    def not_caught(self, word, words):
        house = self.house(word, words)
        self.fails(house, "a", FAULTS[word][1], [("a", 0)])
        self.assertEqual(house.names_of(1), {"n": 0})
        self.assertEqual([entry for entry in house.log() if entry[0] == "caught"], [])

    def test_each_word_caught_by_itself_alone(self):
        for word, other in itertools.product(WORDS, repeat=2):
            if word == other:
                self.caught(word, (other,))
            else:
                self.not_caught(word, (other,))

    def test_all_catches_each(self):
        for word in WORDS:
            self.caught(word, ("ALL",))
            self.caught(word, ("other", "ALL"))
            self.caught(word, (word, "ALL"))

    def test_several_words(self):
        for word in WORDS:
            self.caught(word, WORDS)
            self.caught(word, WORDS[::-1])
            self.not_caught(word, tuple(other for other in WORDS if other != word))

    def test_no_words_catch_nothing(self):
        for word in WORDS:
            self.not_caught(word, ())

    def test_another_name_is_another_word(self):
        for other in ("sto", "stopp", "all", "s"):
            self.not_caught("stop", (other,))

    def test_no_fault_the_last_rows_are_not_done(self):
        for words in ((), ("ALL",), WORDS):
            house = Tries([{"a": (trying((LINE, ("set", "w", 1)), words, (("fail", "never"),)), ("set", "v", 3))}])
            house.take("a")
            self.assertEqual(house.names_of(1), {"x": 1, "w": 1, "v": 3})
            self.assertEqual(house.log(), [("begin", 1, "a"), ("end", 1)])

    def test_empty_rows(self):
        house = Tries([{"a": (trying((), (), ()), trying((), ("ALL",), (("fail", "never"),)), trying((("fail", "stop"),)))}])
        house.take("a")
        self.assertEqual(house.log(), [("begin", 1, "a"), ("caught", 1, 2, "stop"), ("end", 1)])


class TestLog(HouseCase):
    def test_caught_stands_ahead_of_what_the_last_rows_do(self):
        house = Tries([{"a": (LINE, trying((("take", "b", "b"),), ("stop",), (("note", "a"), ("take", "c", "c"))), ("note", "a")),
                        "b": (("fail", "stop"),), "c": ()}])
        house.take("a")
        log = [("begin", 1, "a"), ("begin", 2, "b"), ("fail", 2, ("stop",)), ("caught", 1, 1, "stop"), ("note", 1, ("x",)),
               ("begin", 3, "c"), ("end", 3), ("note", 1, ("c", "x")), ("end", 1)]
        self.all_told(house, {"a": 1, "c": 3}, log, [(1, None, None), (2, 1, 1), (3, 1, 1)])

    def test_numbers_of_rows_are_those_of_the_outermost_ones(self):
        inner = trying((LINE, ("take", "b", "b")), ("HALF",), ())
        deep = trying((LINE, LINE, trying((inner,), ("FLAT",), ())), ("ALL",), (LINE, ("take", "c", "c"), ("now", "q", "q")))
        house = Tries([{"a": (LINE, LINE, LINE, deep), "b": (LINE, trying((LINE, ("fail", "stop")), (), ())), "c": ()}])
        fault = ("HALF", "a", "q", (("a", 3),))
        self.fails(house, "a", fault, [("a", 3)])
        log = [("begin", 1, "a"), ("begin", 2, "b"), ("fail", 2, ("stop",)), ("caught", 1, 3, "stop"), ("begin", 3, "c"),
               ("end", 3), ("fail", 1, fault)]
        self.all_told(house, {"c": 3}, log, [(1, None, None), (2, 1, 3), (3, 1, 3)])

    def test_rows_behind_a_try_have_the_next_numbers(self):
        house = Tries([{"a": (trying((LINE, LINE, LINE)), ("take", "b", "b"), trying((("take", "c", "c"),)), ("fail", "stop")),
                        "b": (), "c": ()}])
        self.fails(house, "a", ("stop",), [("a", 3)])
        self.assertEqual(house.paper(), [(1, None, None), (2, 1, 1), (3, 1, 2)])

    def test_the_ring_has_the_outermost_rows_numbers(self):
        house = Tries([{"a": (LINE, trying((LINE, ("take", "b", "b")), ())), "b": (LINE, LINE, trying((("draw", "y", "a", "q"),), ()))}])
        ring = (("a", 1), ("b", 2))
        self.fails(house, "a", ("HALF", "a", "q", ring), list(ring))


class TestWithinOneAnother(HouseCase):
    def nested(self, words, last=((), (), ())):
        """Three tries, each in the first rows of the one around it, words and last rows from the innermost on."""
        rows = (("fail", "stop"),)
        for caught, behind in zip(words, last):
            rows = (trying(rows, caught, behind),)
        return Tries([{"a": rows + (("note", "a"),)}])

    def test_the_innermost_one_that_catches_it_has_it(self):
        for catching in itertools.product((("stop",), ("other",), ("ALL",), ()), repeat=3):
            house = self.nested(catching, ((("set", "i", 1),), (("set", "m", 1),), (("set", "o", 1),)))
            names = [name for name, words in zip("imo", catching) if words in (("stop",), ("ALL",))]
            if names:
                house.take("a")
                self.assertEqual(house.names_of(1), {names[0]: 1})
                self.assertEqual(house.log(), [("begin", 1, "a"), ("caught", 1, 0, "stop"), ("note", 1, (names[0],)), ("end", 1)])
            else:
                self.fails(house, "a", ("stop",), [("a", 0)])
                self.assertEqual(house.log(), [("begin", 1, "a"), ("fail", 1, ("stop",))])

    def test_a_fault_in_the_last_rows_is_none_of_this_try_s(self):
        house = Tries([{"a": (LINE, trying((("fail", "one"),), ("ALL",), (("set", "y", 1), ("fail", "two"), ("set", "y", 2))))}])
        self.fails(house, "a", ("two",), [("a", 1)])
        self.assertEqual(house.names_of(1), {"x": 1, "y": 1})
        self.assertEqual(house.log(), [("begin", 1, "a"), ("caught", 1, 1, "one"), ("fail", 1, ("two",))])

    def test_nor_is_the_same_fault_there(self):
        house = Tries([{"a": (trying((("fail", "one"),), ("one",), (("fail", "one"),)),)}])
        self.fails(house, "a", ("one",), [("a", 0)])
        self.assertEqual(house.log(), [("begin", 1, "a"), ("caught", 1, 0, "one"), ("fail", 1, ("one",))])

    def test_a_fault_in_the_last_rows_is_the_next_one_s(self):
        house = self.nested((("stop",), ("two",), ("three",)), ((("fail", "two"),), (("fail", "three"),), (LINE,)))
        house.take("a")
        self.assertEqual(house.names_of(1), {"x": 1})
        caught = [("caught", 1, 0, word) for word in ("stop", "two", "three")]
        self.assertEqual(house.log(), [("begin", 1, "a")] + caught + [("note", 1, ("x",)), ("end", 1)])

    def test_tries_in_the_last_rows_three_deep(self):
        rows = (("set", "y", 1),)
        for word in ("three", "two", "one"):
            rows = (trying((("fail", word),), (word,), rows),)
        house = Tries([{"a": rows}])
        house.take("a")
        self.assertEqual(house.names_of(1), {"y": 1})
        caught = [("caught", 1, 0, word) for word in ("one", "two", "three")]
        self.assertEqual(house.log(), [("begin", 1, "a")] + caught + [("end", 1)])

    def test_a_try_in_the_last_rows_catches_there_only(self):
        inner = trying((("fail", "two"),), ("two",), (("set", "y", 1),))
        house = Tries([{"a": (trying((("fail", "one"),), ("one",), (inner, ("fail", "three"))), LINE)}])
        self.fails(house, "a", ("three",), [("a", 0)])
        self.assertEqual(house.names_of(1), {"y": 1})

    def test_rows_behind_a_try_within_a_try_are_done(self):
        inner = trying((("fail", "one"),), ("ALL",), (("set", "y", 1),))
        house = Tries([{"a": (trying((inner, ("set", "w", 1)), (), ()), ("set", "v", 1))}])
        house.take("a")
        self.assertEqual(house.names_of(1), {"y": 1, "w": 1, "v": 1})

    def test_what_was_done_stays(self):
        house = Tries([{"a": (LINE, trying((("set", "x", 2), ("take", "b", "b"), ("fail", "stop"), ("set", "x", 3)),)), "b": ()}])
        house.take("a")
        self.assertEqual(house.names_of(1), {"x": 2, "b": ("module", 2)})
        self.assertEqual(house.table(), {"a": 1, "b": 2})


class TestBodiesThatFail(HouseCase):
    def test_caught_by_who_took_it(self):
        house = Tries([{"a": (trying((("take", "b", "b"), LINE), ("stop",), (("note", "b"),)), ("set", "y", 1)),
                        "b": (("set", "w", 1), ("fail", "stop"))}])
        self.assertEqual(house.take("a"), 1)
        log = [("begin", 1, "a"), ("begin", 2, "b"), ("fail", 2, ("stop",)), ("caught", 1, 0, "stop"), ("note", 1, None), ("end", 1)]
        self.all_told(house, {"a": 1}, log, [(1, None, None), (2, 1, 0)])
        self.assertEqual([house.names_of(1), house.names_of(2)], [{"y": 1}, {"w": 1}])
        self.assertEqual([house.state_of(1), house.state_of(2)], ["whole", "failed"])

    def test_caught_by_one_further_up(self):
        house = Tries([{"a": (trying((("take", "b", "b"),), ("stop",)),), "b": (trying((("take", "c", "c"),), ("HALF",)),),
                        "c": (("take", "d", "d"), ("fail", "stop")), "d": ()}])
        house.take("a")
        log = [("begin", 1, "a"), ("begin", 2, "b"), ("begin", 3, "c"), ("begin", 4, "d"), ("end", 4),
               ("fail", 3, ("stop",)), ("fail", 2, ("stop",)), ("caught", 1, 0, "stop"), ("end", 1)]
        self.all_told(house, {"a": 1, "d": 4}, log, [(1, None, None), (2, 1, 0), (3, 2, 0), (4, 3, 0)])

    def test_who_caught_it_in_a_body_keeps_the_outer_ones_from_it(self):
        house = Tries([{"a": (trying((("take", "b", "b"),), ("ALL",), (("fail", "never"),)),),
                        "b": (trying((("fail", "stop"),), ("stop",), (LINE,)),)}])
        house.take("a")
        self.assertEqual(house.names_of(1), {"b": ("module", 2)})
        self.assertEqual(house.names_of(2), {"x": 1})

    def test_half_caught_and_the_ring_is_gone_on_with(self):
        house = Tries([{"a": (("take", "b", "b"), LINE), "b": (trying((("draw", "y", "a", "x"),), ("HALF",), (("set", "y", 0),)),)}])
        house.take("a")
        self.assertEqual(house.names_of(2), {"y": 0})
        self.assertEqual(house.log(), [("begin", 1, "a"), ("begin", 2, "b"), ("have", 1), ("caught", 2, 0, "HALF"), ("end", 2), ("end", 1)])

    def test_the_road_of_what_comes_to_the_outside(self):
        house = Tries([{"a": (LINE, trying((("take", "b", "b"),), ("one",), (LINE, ("take", "c", "c")))),
                        "b": (LINE, LINE, ("fail", "one")), "c": (trying((("fail", "two"),), ("one",)),)}])
        self.fails(house, "a", ("two",), [("a", 1), ("c", 0)])

    def test_the_same_fault_twice_has_the_road_of_the_last_time(self):
        house = Tries([{"a": (trying((("take", "b", "b"),)), LINE, ("fail", "stop")), "b": (("fail", "stop"),)}])
        self.fails(house, "a", ("stop",), [("a", 2)])

    def test_a_fault_from_deep_below_keeps_its_road(self):
        house = Tries([{"a": (trying((("take", "b", "b"),), ("other",)),), "b": (trying((("take", "c", "c"),), ()),),
                        "c": (LINE, trying((trying((("fail", "stop"),), ()),), ()))}])
        self.fails(house, "a", ("stop",), [("a", 0), ("b", 0), ("c", 1)])

    def test_between_deeds_nothing_is_left_of_a_caught_one(self):
        house = Tries([{"a": (trying((("take", "b", "b"),)),), "b": (("take", "c", "c"),), "c": (("fail", "stop"),), "d": (("take", "e", "e"),),
                        "e": ()}])
        house.take("a")
        house.take("d")
        self.assertEqual(house.paper()[3:], [(4, None, None), (5, 4, 0)])

    def test_sixteen_bodies_each_within_three_tries(self):
        names = "abcdefghijklmnop"
        stock = {name: (trying((trying((trying((("take", "n", other),), ()),), ()),), ()),) for name, other in zip(names, names[1:])}
        stock["p"] = (("fail", "stop"),)
        house = Tries([stock])
        self.fails(house, "a", ("stop",), [(name, 0) for name in names])


class TestMany(HouseCase):
    """Many houses of all rows up to stage 5, beside a machine of its own."""

    WORDS = ["set", "set", "now", "take", "take", "draw", "late", "ask", "note", "fail", "try", "try", "try", "try"]
    ROADS = ["a", "b", "x", "y", "a.x", "b.x", "b.y", "a.b", "a.b.x", "b.c.y", "c.y"]

    def test_many(self):
        words = []
        for seed in range(2500):
            dice = Dice(seed)
            rows = Rows(dice, self.WORDS, ["a", "b", "c", "x", "y"], ["a", "b", "c"] * 4 + ["z"], self.ROADS)
            finders = [{path: rows.body(6) for path in "abc" if dice.below(9)}]
            deeds = [("take", dice.one_of("abcz")) for turn in range(4)]
            words += self.words_of_log(self.reckoned(Tries, finders, deeds))
        for word in ("HALF", "NONAME", "FLAT", "NOTASK", "NOMODULE", "stop", "halt", "caught", "again", "end"):
            self.assertGreater(words.count(word), 30, word)

    def test_all_small_tries(self):
        """Each nest of two tries of short rows in a body that another one takes."""
        rows = [(), (("fail", "stop"),), (("draw", "y", "a", "x"),), (("take", "y", "z"), LINE)]
        catching = [(), ("stop",), ("HALF", "NOMODULE"), ("ALL",)]
        for inner, words, last, outer, behind in itertools.product(rows, catching, rows, catching, rows[:3]):
            body = (trying((trying(inner, words, last), ("set", "k", 1)), outer, behind), ("set", "v", 2))
            self.reckoned(Tries, [{"a": (("take", "b", "b"), LINE), "b": body}], [("take", "a"), ("take", "b"), ("take", "a")])


class TestFailedDeeds(HouseCase):
    def test_a_deed_that_fails_keeps_what_ended_whole(self):
        house = Tries([{"a": (("take", "b", "b"), trying((("take", "c", "c"),)), ("fail", "stop")), "b": (), "c": (("fail", "one"),)}])
        self.assertRaises(Failed, house.take, "a")
        self.assertEqual(house.table(), {"b": 2})
        self.assertEqual([house.state_of(number) for number in (1, 2, 3)], ["failed", "whole", "failed"])


if __name__ == "__main__":
    unittest.main()

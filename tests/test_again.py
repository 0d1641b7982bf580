"""A path whose body failed, met again in the same deed and in the next one."""

import unittest

from halfmade.errors import Failed
from halfmade.tries import Tries
from halfmade.within import Within
from tests.houses_at_hand import HouseCase
from tests.test_tries import trying
from tests.things_at_hand import LINE

STOP = ("stop",)


class TestMetAgain(HouseCase):
    def test_by_the_same_body(self):
        house = Tries([{"a": (trying((("take", "b", "b"),)), LINE, ("take", "b", "b"), ("set", "y", 1)), "b": (("fail", "stop"),)}])
        self.fails(house, "a", STOP, [("a", 2)])
        log = [("begin", 1, "a"), ("begin", 2, "b"), ("fail", 2, STOP), ("caught", 1, 0, "stop"), ("again", 2), ("fail", 1, STOP)]
        self.all_told(house, {}, log, [(1, None, None), (2, 1, 0)])
        self.assertEqual(house.names_of(1), {"x": 1})

    def test_by_a_draw(self):
        house = Tries([{"a": (trying((("draw", "y", "b", "x"),)), ("draw", "y", "b", "x")), "b": (LINE, ("fail", "stop"))}])
        self.fails(house, "a", STOP, [("a", 1)])
        self.assertEqual(house.log()[4:], [("again", 2), ("fail", 1, STOP)])

    def test_by_another_body(self):
        house = Tries([{"a": (trying((("take", "b", "b"),)), ("take", "c", "c")), "b": (("fail", "stop"),), "c": (LINE, ("take", "b", "b"))}])
        self.fails(house, "a", STOP, [("a", 1), ("c", 1)])
        log = [("begin", 1, "a"), ("begin", 2, "b"), ("fail", 2, STOP), ("caught", 1, 0, "stop"), ("begin", 3, "c"), ("again", 2),
               ("fail", 3, STOP), ("fail", 1, STOP)]
        self.all_told(house, {}, log, [(1, None, None), (2, 1, 0), (3, 1, 1)])

    def test_within_a_try(self):
        house = Tries([{"a": (trying((("take", "b", "b"),)), trying((("take", "b", "b"),), ("stop",), (LINE,)), ("set", "y", 2)),
                        "b": (("fail", "stop"),)}])
        house.take("a")
        log = [("begin", 1, "a"), ("begin", 2, "b"), ("fail", 2, STOP), ("caught", 1, 0, "stop"), ("again", 2), ("caught", 1, 1, "stop"), ("end", 1)]
        self.all_told(house, {"a": 1}, log, [(1, None, None), (2, 1, 0)])
        self.assertEqual(house.names_of(1), {"x": 1, "y": 2})

    def test_in_the_last_rows_of_the_try_that_caught_it(self):
        house = Tries([{"a": (LINE, trying((("take", "b", "b"),), ("ALL",), (LINE, ("take", "b", "b"), ("set", "y", 1)))), "b": (LINE, ("fail", "stop"))}])
        self.fails(house, "a", STOP, [("a", 1)])
        log = [("begin", 1, "a"), ("begin", 2, "b"), ("fail", 2, STOP), ("caught", 1, 1, "stop"), ("again", 2), ("fail", 1, STOP)]
        self.all_told(house, {}, log, [(1, None, None), (2, 1, 1)])

    def test_the_fault_keeps_its_ring(self):
        fault = ("HALF", "a", "x", (("a", 0), ("b", 0)))
        house = Tries([{"a": (trying((("take", "b", "b"),)), LINE, ("take", "c", "c")), "b": (("draw", "y", "a", "x"),),
                        "c": (LINE, LINE, ("take", "b", "b"))}])
        self.fails(house, "a", fault, [("a", 2), ("c", 2)])
        self.assertIn(("fail", 3, fault), house.log())

    def test_one_of_several_that_failed(self):
        house = Tries([{"a": (trying((("take", "b", "b"),)), trying((("take", "c", "c"),)), trying((("take", "d", "d"),))),
                        "b": (("take", "c", "c"),), "c": (("take", "d", "d"),), "d": (("fail", "stop"),)}])
        house.take("a")
        log = [("begin", 1, "a"), ("begin", 2, "b"), ("begin", 3, "c"), ("begin", 4, "d"), ("fail", 4, STOP), ("fail", 3, STOP),
               ("fail", 2, STOP), ("caught", 1, 0, "stop"), ("again", 3), ("caught", 1, 1, "stop"), ("again", 4),
               ("caught", 1, 2, "stop"), ("end", 1)]
        self.all_told(house, {"a": 1}, log, [(1, None, None), (2, 1, 0), (3, 2, 0), (4, 3, 0)])

    def test_a_body_that_failed_by_one_met_again_is_itself_met_again(self):
        house = Tries([{"a": (trying((("take", "b", "b"),)), trying((("take", "c", "c"),)), ("take", "c", "c")),
                        "b": (("fail", "stop"),), "c": (LINE, ("take", "b", "b"))}])
        self.fails(house, "a", STOP, [("a", 2)])
        self.assertEqual(house.log()[4:], [("begin", 3, "c"), ("again", 2), ("fail", 3, STOP), ("caught", 1, 1, "stop"), ("again", 3),
                                           ("fail", 1, STOP)])

    def test_a_missing_path_is_looked_for_each_time(self):
        house = Tries([{"a": (trying((("take", "z", "z"),)), ("take", "z", "z"))}])
        self.fails(house, "a", ("NOMODULE", "z"), [("a", 1)])
        self.assertEqual([entry[0] for entry in house.log()], ["begin", "caught", "fail"])

    def test_what_ended_whole_below_it_is_there(self):
        house = Tries([{"a": (trying((("take", "b", "b"),)), ("take", "c", "c")), "b": (("take", "c", "c"), ("fail", "stop")), "c": ()}])
        house.take("a")
        self.assertIn(("have", 3), house.log())

    def test_a_note_takes_nothing_so_it_meets_nothing_again(self):
        house = Tries([{"a": (trying((("take", "b", "b"),)), ("note", "b")), "b": (("fail", "stop"),)}])
        house.take("a")
        self.assertEqual(house.log()[4:], [("note", 1, None), ("end", 1)])


class TestInTheNextDeed(HouseCase):
    def test_it_is_begun_anew_with_another_number(self):
        house = Tries([{"a": (trying((("take", "b", "b"),)), trying((("take", "b", "b"),))), "b": (LINE, ("fail", "stop"))}])
        house.take("a")
        self.fails(house, "b", STOP, [("b", 1)])
        self.fails(house, "b", STOP, [("b", 1)])
        self.assertEqual(house.paper(), [(1, None, None), (2, 1, 0), (3, None, None), (4, None, None)])
        self.assertEqual([entry for entry in house.log() if entry[0] == "again"], [("again", 2)])
        self.assertEqual([house.state_of(number) for number in (1, 2, 3, 4)], ["whole", "failed", "failed", "failed"])

    def test_behind_a_refused_deed(self):
        house = Tries([{"a": (("take", "b", "b"),), "b": (("fail", "stop"),), "c": (trying((("take", "b", "b"),)),)}])
        self.fails(house, "a", STOP, [("a", 0), ("b", 0)])
        house.take("c")
        self.assertEqual(house.log()[4:], [("begin", 3, "c"), ("begin", 4, "b"), ("fail", 4, STOP), ("caught", 3, 0, "stop"), ("end", 3)])

    def test_it_may_come_whole_then(self):
        # b fails while a is half made, and not behind that.
        house = Tries([{"a": (trying((("take", "b", "b"),)), LINE), "b": (("draw", "y", "a", "x"),)}])
        house.take("a")
        self.assertEqual(house.take("b"), 3)
        self.assertEqual(house.names_of(3), {"y": 1})
        self.assertEqual([house.state_of(number) for number in (1, 2, 3)], ["whole", "failed", "whole"])

    def test_from_outside_the_next_deed_begins_it(self):
        house = Tries([{"b": (("fail", "stop"),)}])
        for number in (1, 2, 3):
            self.fails(house, "b", STOP, [("b", 0)])
            self.assertEqual(house.log()[-1], ("fail", number, STOP))


class TestByABeginning(HouseCase):
    def test_from_outside_there_is_no_chain(self):
        house = Within([{"a": (trying((("take", "k", "a.b"),)), LINE), "a.b": (LINE, ("fail", "stop"))}])
        self.fails(house, "a.b", STOP, [])
        log = [("begin", 1, "a"), ("have", 1), ("begin", 2, "a.b"), ("fail", 2, STOP), ("caught", 1, 0, "stop"), ("end", 1), ("again", 2)]
        self.all_told(house, {"a": 1}, log, [(1, None, None), (2, 1, 0)])

    def test_from_outside_by_one_in_the_middle(self):
        house = Within([{"a": (trying((("take", "k", "a.b"),)),), "a.b": (("fail", "stop"),), "a.b.c": (LINE,)}])
        self.fails(house, "a.b.c", STOP, [])
        self.assertEqual(house.log()[-1], ("again", 2))

    def test_from_a_row_by_one_in_the_middle(self):
        house = Within([{"a": (trying((("take", "k", "a.b"),)),), "a.b": (("fail", "stop"),), "a.b.c": (LINE,),
                         "e": (LINE, ("take", "k", "a.b.c"))}])
        self.fails(house, "e", STOP, [("e", 1)])
        self.assertEqual(house.log()[-2:], [("again", 3), ("fail", 1, STOP)])

    def test_the_ring_is_kept_from_outside_too(self):
        house = Within([{"a": (trying((("take", "k", "a.b"),)),), "a.b": (("draw", "y", "a", "x"),)}])
        self.fails(house, "a.b", ("HALF", "a", "x", (("a", 0), ("a.b", 0))), [])

    def test_by_a_path_within(self):
        house = Within([{"a": (), "a.b": (("fail", "stop"),),
                         "e": (trying((("take", "k", "a.b"),)), LINE, ("draw", "k", "a", "b"))}])
        self.fails(house, "e", STOP, [("e", 2)])
        self.assertEqual(house.log()[-3:], [("have", 2), ("again", 3), ("fail", 1, STOP)])

    def test_then_anew_in_the_next_deed(self):
        house = Within([{"a": (trying((("take", "k", "a.b"),)), LINE), "a.b": (("draw", "y", "a", "x"),)}])
        self.assertRaises(Failed, house.take, "a.b")
        self.assertEqual(house.take("a.b"), 3)
        self.assertEqual(house.names_of(1), {"x": 1, "b": ("module", 3)})
        self.assertEqual(house.names_of(3), {"y": 1})


if __name__ == "__main__":
    unittest.main()

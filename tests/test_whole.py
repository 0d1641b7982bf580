"""What holds over the whole program: many houses by deeds in whatever order, and what is handed in and told."""

import copy
import unittest

from halfmade.bodytexts import body_text, read_body
from halfmade.errors import Failed, NotTaken
from halfmade.house import House
from halfmade.orders import by_paths
from tests.houses_at_hand import Dice, HouseCase, Rows, all_of, outcome, used
from tests.stocks_at_hand import thrown_stock
from tests.test_tries import trying
from tests.things_at_hand import LINE

WORDS = ["set", "set", "now", "take", "take", "take", "draw", "draw", "late", "ask", "note", "fail", "try", "try", "try"]
PATHS = ["a", "b", "c", "a.b", "a.b.c", "b.a"]
NAMES = ["a", "b", "c", "x"]
ROADS = ["a", "b", "c", "x", "a.x", "b.x", "a.b", "a.b.c", "a.b.c.x", "b.a", "c.x"]


def thrown_deeds(dice, rows, finders, many):
    """Deeds of all kinds, most of them takings."""
    deeds = []
    for turn in range(many):
        word = dice.one_of(("take", "take", "take", "anew", "anew", "let_go", "put", "put", "thing", "ask"))
        deed = (word, dice.one_of(PATHS))
        if word in ("thing", "ask"):
            deed += (dice.one_of(ROADS),)
        if word == "put":
            deed = (word, dice.below(len(finders)), deed[1], rows.body(3) if dice.below(4) else None)
        deeds.append(deed)
    return deeds


def thrown(seed, many, most=4):
    """Finders, and so many deeds, thrown by dice."""
    dice = Dice(seed)
    rows = Rows(dice, WORDS, NAMES, PATHS, ROADS)
    finders = [{path: rows.body(most) for path in PATHS if dice.below(5)} for turn in range(1 + dice.below(2))]
    return finders, thrown_deeds(dice, rows, finders, many)


class TestBesideTheMachine(HouseCase):
    def test_many_houses(self):
        words = []
        for seed in range(3000):
            words += self.words_of_log(self.reckoned(House, *thrown(seed, 12)))
        for word in ("HALF", "NONAME", "FLAT", "NOTASK", "NOMODULE", "stop", "halt", "caught", "again", "anew", "note", "end"):
            self.assertGreater(words.count(word), 60, word)

    def test_many_plain_stocks(self):
        for seed in range(600):
            dice = Dice(seed)
            finders = [thrown_stock(dice, "abcd"[:1 + dice.below(4)], 4)]
            deeds = [(dice.one_of(("take", "take", "take", "let_go", "anew")), dice.one_of("abcd")) for turn in range(8)]
            self.reckoned(House, finders, deeds)

    def test_longer_bodies(self):
        for seed in range(300):
            self.reckoned(House, *thrown(seed, 8, most=9))


class TestPromise(HouseCase):
    """Point 3, looked at in the log of many houses."""

    def each(self, many=500):
        for seed in range(many):
            finders, deeds = thrown(seed, 10)
            yield House(finders), deeds

    def test_in_one_deed_no_path_is_begun_twice(self):
        for house, deeds in self.each():
            for deed in deeds:
                ahead = len(house.log())
                standing = house.table()
                outcome(house, deed)
                begun = [entry[2] for entry in house.log()[ahead:] if entry[0] == "begin"]
                self.assertEqual(len(set(begun)), len(begun))
                self.assertFalse(set(begun) & set(standing))

    def test_between_deeds_nothing_is_half_made(self):
        for house, deeds in self.each():
            for deed in deeds:
                outcome(house, deed)
                log = house.log()
                for number in used(house):
                    started = [entry[0] for entry in log if entry[0] in ("begin", "anew") and entry[1] == number]
                    done = [entry[0] for entry in log if entry[0] in ("end", "fail") and entry[1] == number]
                    self.assertEqual(len(started), len(done))
                for path, number in house.table().items():
                    self.assertEqual((house.path_of(number), house.state_of(number)), (path, "whole"))

    def test_rings_are_parts_of_the_paper(self):
        """Each row in a ring takes the next one: the paper has just that."""
        seen = 0
        for house, deeds in self.each():
            for deed in deeds:
                outcome(house, deed)
            taken = [(house.path_of(by), row, house.path_of(number)) for number, by, row in house.paper() if by is not None]
            for entry in house.log():
                if entry[0] == "fail" and entry[2][0] == "HALF":
                    path, ring = entry[2][1], entry[2][3]
                    self.assertEqual(ring[0][0], path)
                    for (one, row), (other, behind) in zip(ring, ring[1:]):
                        seen += 1
                        self.assertIn((one, row, other), taken)
        self.assertGreater(seen, 50)

    def test_numbers_are_used_once_and_in_order(self):
        for house, deeds in self.each():
            for deed in deeds:
                outcome(house, deed)
            self.assertEqual(used(house), list(range(1, len(used(house)) + 1)))

    def test_what_is_refused_for_what_is_handed_in_changes_nothing(self):
        for house, deeds in self.each(60):
            for deed in deeds:
                outcome(house, deed)
                for action, things in ((house.take, (None,)), (house.put, (9, "a", ())), (house.put, (0, "A", ())), (house.put, (0, "a", 5)),
                                       (house.let_go, ("z",)), (house.anew, ("z",)), (house.thing, ("z", "x")), (house.path_of, (0,))):
                    self.changes_nothing(house, lambda: self.assertRaises(ValueError, action, *things))

    def test_the_same_deeds_are_told_alike(self):
        for seed in range(200):
            finders, deeds = thrown(seed, 8)
            one, other = House(finders), House(copy.deepcopy(finders))
            for deed in deeds:
                self.assertEqual(outcome(one, deed), outcome(other, deed))
            self.assertEqual(all_of(one), all_of(other))
            self.assertEqual(all_of(one), all_of(one))

    def test_bodies_go_through_their_texts(self):
        for seed in range(200):
            for finder in thrown(seed, 0)[0]:
                for body in finder.values():
                    self.assertEqual(read_body(body_text(body)), body)


class TestOwnership(HouseCase):
    def spoil(self, thing):
        """Changes a told list or dict as far as it can be changed."""
        if isinstance(thing, dict):
            for key in list(thing):
                self.spoil(thing[key])
                thing[key] = 99
            thing["zz"] = 99
        elif isinstance(thing, list):
            for part in thing:
                self.spoil(part)
            thing.reverse()
            thing.append(99)

    def askings(self, house):
        names = [lambda number=number: house.names_of(number) for number in used(house)]
        return [house.table, house.log, house.paper, lambda: by_paths(house)] + names

    def test_each_told_list_and_dict_changed_by_the_asker(self):
        for seed in range(120):
            finders, deeds = thrown(seed, 8)
            spoiled, other = House(finders), House(finders)
            for deed in deeds:
                self.assertEqual(outcome(spoiled, deed), outcome(other, deed))
                for asking in self.askings(spoiled):
                    self.spoil(asking())
            self.assertEqual(all_of(spoiled), all_of(other))
            self.assertEqual(by_paths(spoiled), by_paths(other))

    def test_roads_of_refusals_changed_by_the_asker(self):
        house = House([{"a": (trying((("take", "b", "b"),), ("other",)),), "b": (("fail", "stop"),)}])
        for turn in range(3):
            with self.assertRaises(Failed) as caught:
                house.take("a")
            self.assertEqual(caught.exception.road, [("a", 0), ("b", 0)])
            caught.exception.road.clear()

    def test_what_was_told_ahead_stays(self):
        for seed in range(120):
            finders, deeds = thrown(seed, 8)
            house = House(finders)
            told, kept = [], []
            for deed in deeds:
                outcome(house, deed)
                told.append([asking() for asking in self.askings(house)])
                kept.append(copy.deepcopy(told[-1]))
            self.assertEqual(told, kept)

    def test_finders_changed_behind_the_making_and_amid_the_deeds(self):
        for seed in range(120):
            finders, deeds = thrown(seed, 8)
            house, other = House(finders), House(copy.deepcopy(finders))
            for deed in deeds:
                for finder in finders:
                    finder.clear()
                    finder["a"] = (("fail", "never"),)
                    finder["z"] = ()
                finders.append({"a": ()})
                self.assertEqual(outcome(house, deed), outcome(other, deed))
            self.assertEqual(all_of(house), all_of(other))

    def test_two_houses_share_nothing(self):
        finders = [{"a": (LINE,), "b": ()}]
        one, other = House(finders), House(finders)
        one.take("a")
        one.put(0, "b", (LINE,))
        self.assertEqual(all_of(other), ({}, [], [], []))
        self.assertRaises(NotTaken, other.let_go, "a")
        other.take("b")
        self.assertEqual(other.names_of(1), {})


if __name__ == "__main__":
    unittest.main()

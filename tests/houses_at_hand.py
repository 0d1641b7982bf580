"""What the tests of draws, tries, within and houses share."""

import copy

from halfmade.errors import Failed, NotTaken
from halfmade.rows import counted
from tests.machine import Machine
from tests.runs_at_hand import RunsCase


def outcome(house, deed):
    """What a deed, (method, arguments ..), tells; of a refused one (fault, road) or the error's name."""
    try:
        return getattr(house, deed[0])(*deed[1:])
    except Failed as failed:
        return (failed.fault, failed.road)
    except NotTaken:
        return "NotTaken"


def used(house):
    """The numbers that were used."""
    return [entry[1] for entry in house.log() if entry[0] == "begin"]


def all_of(house):
    """All that a house tells without being changed by it."""
    numbers = [(house.path_of(number), house.names_of(number), house.state_of(number)) for number in used(house)]
    return (house.table(), house.log(), house.paper(), numbers)


def all_of_machine(machine):
    numbers = [(machine.paths[number], machine.names[number], machine.state_of(number)) for number in machine.paths]
    return (machine.table, machine.log, machine.paper, numbers)


def with_numbers(outcome_of_machine):
    """What a machine tells of a taking is the module; a house tells its number."""
    if isinstance(outcome_of_machine, tuple) and outcome_of_machine[0] == "module":
        return outcome_of_machine[1]
    return outcome_of_machine


class Dice:
    """A row of numbers that is the same each time."""

    def __init__(self, seed):
        self.state = seed * 2654435761 + 1

    def below(self, end):
        self.state = (self.state * 6364136223846793005 + 1442695040888963407) & (2 ** 64 - 1)
        return (self.state >> 33) % end

    def one_of(self, things):
        return things[self.below(len(things))]

    def some_of(self, things):
        return tuple(thing for thing in things if self.below(3) == 0)


class Rows:
    """Rows and bodies thrown by dice, out of these words, names, paths and roads."""

    def __init__(self, dice, words, names, paths, roads):
        self.dice = dice
        self.words = words
        self.names = names
        self.paths = paths
        self.roads = roads

    def row(self, depth=0):
        word = self.dice.one_of(self.words)
        name = self.dice.one_of(self.names)
        if word == "set":
            return ("set", name, self.dice.below(5) - 2)
        if word == "take":
            return ("take", name, self.dice.one_of(self.paths))
        if word == "draw":
            return ("draw", name, self.dice.one_of(self.paths), self.dice.one_of(self.names))
        if word == "note":
            return ("note", self.dice.one_of(self.paths))
        if word == "fail":
            return ("fail", self.dice.one_of(("stop", "halt")))
        if word != "try":
            return (word, name, self.dice.one_of(self.roads))
        if depth == 3:
            return ("set", name, 9)
        caught = self.dice.some_of(("ALL", "HALF", "NONAME", "NOMODULE", "FLAT", "NOTASK", "stop", "halt"))
        return ("try", self.rows(3, depth + 1), caught, self.rows(2, depth + 1))

    def rows(self, most, depth):
        return tuple(self.row(depth) for turn in range(self.dice.below(most + 1)))

    def body(self, most):
        """A body of so many rows at most, thrown anew until it has no more than forty, all counted."""
        body = self.rows(most, 0)
        return body if counted(body) <= 40 else self.body(most)


class HouseCase(RunsCase):
    def refused(self, kind, action, *things):
        with self.assertRaises(Exception) as caught:
            action(*things)
        self.assertIs(type(caught.exception), kind, things)

    def fault_of(self, fault, road, action, *things):
        """The action fails by the fault, with the road."""
        with self.assertRaises(Failed) as caught:
            action(*things)
        self.assertEqual((caught.exception.fault, caught.exception.road), (fault, road))

    def changes_nothing(self, house, action):
        ahead = copy.deepcopy(all_of(house))
        action()
        self.assertEqual(all_of(house), ahead)

    def reckoned(self, kind, finders, deeds):
        """Does the deeds in a house and by the machine, which must tell the same; tells the house."""
        as_handed = copy.deepcopy(finders)
        house, machine = kind(finders), Machine(finders)
        for at, deed in enumerate(deeds):
            reckoning = getattr(machine, deed[0])(*deed[1:])
            if deed[0] in ("take", "anew"):
                reckoning = with_numbers(reckoning)
            self.assertEqual(outcome(house, deed), reckoning, (finders, deeds[:at + 1]))
        self.assertEqual(all_of(house), all_of_machine(machine), (finders, deeds))
        self.lies_within_one_another(house)
        self.assertEqual(finders, as_handed)
        return house

    def words_of_log(self, house):
        """The words of a log's entries and of its faults, as often as they are there."""
        words = []
        for entry in house.log():
            words.append(entry[0])
            if entry[0] == "fail":
                words.append(entry[2][0])
            if entry[0] == "caught":
                words.append(entry[3])
        return words

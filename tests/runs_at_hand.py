"""What the tests of runs share: their case, and a reckoning of runs by another way."""

import unittest

from halfmade.errors import Failed


class RunsCase(unittest.TestCase):
    def fails(self, runs, path, fault, road):
        with self.assertRaises(Failed) as caught:
            runs.take(path)
        self.assertEqual((caught.exception.fault, caught.exception.road), (fault, road))
        return caught.exception

    def all_told(self, runs, table, log, paper):
        self.assertEqual(runs.table(), table)
        self.assertEqual(runs.log(), log)
        self.assertEqual(runs.paper(), paper)
        self.lies_within_one_another(runs)

    def lies_within_one_another(self, runs):
        """The log's begins and ends lie within one another just as the paper tells."""
        under_way, begun = [], []
        for entry in runs.log():
            if entry[0] in ("begin", "anew"):
                begun.append((entry[1], under_way[-1] if under_way else None))
                under_way.append(entry[1])
            elif entry[0] in ("end", "fail"):
                self.assertEqual(under_way.pop(), entry[1])
            elif entry[0] in ("note", "caught"):
                self.assertEqual(under_way[-1], entry[1])
        self.assertEqual(under_way, [])
        self.assertEqual(begun, [(number, by) for number, by, row in runs.paper()])


class Stepwise:
    """Set, take and note rows done one at a time, the bodies under way on a pile of their own."""

    def __init__(self, stock):
        self.stock = stock
        self.paths = []
        self.names = []
        self.states = []
        self.table = {}
        self.log = []
        self.paper = []
        self.pile = []

    def start(self, path):
        """The number of a path that is there or begins now; None where there is none."""
        if path in self.table:
            self.log.append(("have", self.table[path]))
            return self.table[path]
        if path not in self.stock:
            return None
        self.paths.append(path)
        self.names.append({})
        self.states.append("half")
        number = len(self.paths)
        self.table[path] = number
        self.log.append(("begin", number, path))
        self.paper.append((number,) + (tuple(self.pile[-1]) if self.pile else (None, None)))
        self.pile.append([number, 0])
        return number

    def drop(self, fault):
        road = [(self.paths[number - 1], row) for number, row in self.pile]
        for number, row in reversed(self.pile):
            self.log.append(("fail", number, fault))
            self.states[number - 1] = "failed"
            del self.table[self.paths[number - 1]]
        self.pile = []
        return (fault, road)

    def deed(self, path):
        made = self.start(path)
        if made is None:
            return (("NOMODULE", path), [])
        while self.pile:
            number, at = self.pile[-1]
            body = self.stock[self.paths[number - 1]]
            if at == len(body):
                self.end()
            elif body[at][0] == "take":
                taken = self.start(body[at][2])
                if taken is None:
                    return self.drop(("NOMODULE", body[at][2]))
                if self.pile[-1][0] == number:
                    self.names[number - 1][body[at][1]] = ("module", taken)
                    self.pile[-1][1] += 1
            else:
                self.do_plain(number, body[at])
                self.pile[-1][1] += 1
        return made

    def do_plain(self, number, row):
        if row[0] == "set":
            self.names[number - 1][row[1]] = row[2]
            return
        there = self.table.get(row[1])
        self.log.append(("note", number, None if there is None else tuple(sorted(self.names[there - 1]))))

    def end(self):
        ended = self.pile.pop()[0]
        self.log.append(("end", ended))
        self.states[ended - 1] = "whole"
        if self.pile:
            number, at = self.pile[-1]
            name = self.stock[self.paths[number - 1]][at][1]
            self.names[number - 1][name] = ("module", ended)
            self.pile[-1][1] += 1


def stepwise(stock, takings):
    """What is told behind these takings: outcomes, table, log, paper, names and states by number."""
    steps = Stepwise(stock)
    outcomes = [steps.deed(path) for path in takings]
    return (outcomes, steps.table, steps.log, steps.paper, steps.names, steps.states)

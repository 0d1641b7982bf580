"""Bodies run: who takes whom, the table, the log and the paper."""

from halfmade.errors import Failed, Fault, NoBody, NoFinder, NoNumber, NoPath
from halfmade.looking import places
from halfmade.paths import is_path
from halfmade.rows import is_body, is_whole
from halfmade.things import Module, told


def check_path(path):
    if not is_path(path):
        raise NoPath("no path")


def check_finders(finders):
    """Refuses what are no finders; all keys are looked at ahead of any body."""
    if not isinstance(finders, list) or not all(isinstance(finder, dict) for finder in finders):
        raise NoFinder("no list of dicts")
    if not all(is_path(path) for finder in finders for path in finder):
        raise NoPath("a finder has a key that is no path")
    if not all(is_body(finder[path]) for finder in finders for path in finder):
        raise NoBody("a finder has a path without a body")


class Runs:
    """Finders, and what the deeds so far have made of their bodies."""

    def __init__(self, finders):
        check_finders(finders)
        # Copies, since the handed dicts stay their owner's to change.
        self.finders = [dict(finder) for finder in finders]
        # Every module that ever began, by its number; those that the table has, by their paths.
        self.modules = {}
        self.standing = {}
        # Of each number whose body failed when it began, True.
        self.failed = {}
        self.entries = []
        self.begun = []
        self.chain = []
        # Of this deed alone: by path, the number of the module whose body failed, and the fault.
        self.fallen = {}

    def take(self, path):
        """Takes a path from outside: the number of its module."""
        check_path(path)
        self.fallen = {}
        try:
            return self.taken(path).number
        except Fault as e:
            # No body was under way: this fault has no road.
            raise Failed(e.fault, []) from None

    def table(self):
        """A dict from the paths that the table has to the numbers of their modules."""
        return {path: module.number for path, module in self.standing.items()}

    def log(self):
        """The entries of all deeds, in order."""
        return list(self.entries)

    def paper(self):
        """Who was taken by whom, at which row, in the order in which the bodies began."""
        return list(self.begun)

    def path_of(self, number):
        """The path of a module."""
        return self.numbered(number).path

    def names_of(self, number):
        """A dict from a module's names to their things, as they are told."""
        module = self.numbered(number)
        return {name: told(module.thing_of(name)) for name in module.bound()}

    def state_of(self, number):
        """What became of a module: whole, failed or gone."""
        module = self.numbered(number)
        if self.standing.get(module.path) == module:
            return "whole"
        return "failed" if number in self.failed else "gone"

    def numbered(self, number):
        """The module of a number, which may be anything."""
        if not is_whole(number) or number not in self.modules:
            raise NoNumber("no number of a module")
        return self.modules[number]

    def body_at(self, path):
        """The body that the first finder has which has the path, or None."""
        for finder in self.finders:
            if path in finder:
                return finder[path]
        return None

    def taken(self, path):
        """The module that a row, or a call from outside, takes; else Fault or Failed."""
        return self.taken_alone(path)

    def taken_alone(self, path):
        """The module that is taken at this one path; else Fault, or Failed where its body fails."""
        if path in self.standing:
            module = self.standing[path]
            self.entries.append(("have", module.number))
            return module
        if path in self.fallen:
            number, fault = self.fallen[path]
            self.entries.append(("again", number))
            raise Fault(fault)
        body = self.body_at(path)
        if body is None:
            raise Fault(("NOMODULE", path))
        return self.begin(path, body)

    def begin(self, path, body):
        """Makes the module of a path by its body; Failed where that fails."""
        module = Module(len(self.modules) + 1, path)
        self.modules[module.number] = module
        self.standing[path] = module
        try:
            self.run("begin", module, body)
        except Failed as e:
            self.fall(module, e.fault)
            raise
        return module

    def fall(self, module, fault):
        """Takes a module out of the table, whose body failed when it began."""
        del self.standing[module.path]
        self.failed[module.number] = True
        self.fallen[module.path] = (module.number, fault)

    def write_down(self, module):
        """Writes into the paper who took a module whose body is about to run."""
        if not self.chain:
            self.begun.append((module.number, None, None))
            return
        by, row = self.chain[-1]
        self.begun.append((module.number, by.number, row))

    def run(self, word, module, body):
        """Does the rows of a body, its module being the last one of the chain meanwhile.

        word is what the log has for the start: a body begins, or a class below reads it anew.
        """
        self.entries.append((word, module.number, module.path))
        self.write_down(module)
        ahead = self.chain
        self.chain = ahead + [(module, 0)]
        try:
            for at, row in enumerate(body):
                self.chain[-1] = (module, at)
                self.do_row(row)
        except Failed as e:
            self.entries.append(("fail", module.number, e.fault))
            raise
        finally:
            self.chain = ahead
        self.entries.append(("end", module.number))

    def do_row(self, row):
        """Does a row of the running body; a fault that arises in it is Failed from here on.

        The road is told here, where the chain still is as it was when the fault arose; a
        Failed that comes out of a body that was taken goes on with its own road.
        """
        try:
            self.do(row)
        except Fault as e:
            raise Failed(e.fault, places(self.chain)) from None

    def do(self, row):
        """Does what a row says; the classes below do rows of their own besides these."""
        word = row[0]
        if word == "set":
            self.running().bind(row[1], row[2])
        elif word == "take":
            module = self.taken(row[2])
            self.running().bind(row[1], module)
        elif word == "note":
            self.note(row[1])

    def running(self):
        """The module of the running body."""
        return self.chain[-1][0]

    def note(self, path):
        """Writes into the log which names the module has that the table has at a path."""
        names = None
        if path in self.standing:
            names = tuple(self.standing[path].bound())
        self.entries.append(("note", self.running().number, names))

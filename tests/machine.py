"""A reckoning of houses by another way: bodies as steps of a machine, things as they are told.

A body is laid out as a list of steps, tries as leaps in it; the bodies under way stand on a
pile of frames; a fault is a value that unwinds the pile. Nothing here is of the package.
"""


class Frame:
    """A body under way; number None for the call from outside that is its ground."""

    def __init__(self, number, path, steps, began):
        self.number = number
        self.path = path
        self.steps = steps
        self.began = began
        self.at = 0
        self.row = 0
        self.catchers = []
        self.got = None


def beginnings(path):
    return [path[:at] for at, sign in enumerate(path) if sign == "."] + [path]


def laid_out(rows, row=None):
    """The steps of rows, each (number of the outermost row, word, ..)."""
    steps = []
    for at, parts in enumerate(rows):
        steps += [(at if row is None else row,) + step for step in steps_of(parts, at if row is None else row)]
    return steps


def steps_of(parts, row):
    if parts[0] == "take":
        return [("one", path) for path in beginnings(parts[2])] + [("keep", parts[1])]
    if parts[0] == "draw":
        return [("one", path) for path in beginnings(parts[2])] + [("find", parts[2], parts[3]), ("keep", parts[1])]
    if parts[0] == "try":
        first = [step[1:] for step in laid_out(parts[1], row)]
        last = [step[1:] for step in laid_out(parts[3], row)]
        # Leaps are told by how many steps they go beyond the next one.
        return [("guard", parts[2], len(first) + 2)] + first + [("unguard",), ("leap", len(last))] + last
    return [parts]


class Machine:
    def __init__(self, finders):
        self.finders = [dict(finder) for finder in finders]
        self.paths = {}
        self.names = {}
        self.failed = []
        self.table = {}
        self.log = []
        self.paper = []
        self.pile = []
        self.fallen = {}

    # What is done from outside.

    def take(self, path):
        return self.deed(Frame(None, None, [(None, "one", beginning) for beginning in beginnings(path)], False))

    def anew(self, path):
        if path not in self.table:
            return "NotTaken"
        return self.deed(Frame(None, None, [(None, "anew", path)], False))

    def let_go(self, path):
        return "NotTaken" if self.table.pop(path, None) is None else None

    def put(self, k, path, body):
        self.finders[k].pop(path, None)
        if body is not None:
            self.finders[k][path] = body

    def thing(self, path, road):
        if path not in self.table:
            return "NotTaken"
        fault, thing = self.follow(self.table[path], road)
        return thing if fault is None else (fault, [])

    def ask(self, path, road):
        if path not in self.table:
            return "NotTaken"
        fault, thing = self.follow_and_ask(self.table[path], road)
        return thing if fault is None else (fault, [])

    def state_of(self, number):
        if self.table.get(self.paths[number]) == number:
            return "whole"
        return "failed" if number in self.failed else "gone"

    # How bodies are run.

    def deed(self, ground):
        self.fallen = {}
        self.pile = [ground]
        while True:
            frame = self.pile[-1]
            if frame.at < len(frame.steps):
                step = frame.steps[frame.at]
                frame.at += 1
                frame.row = step[0]
                fault = self.step(frame, step[1], step[2:])
                if fault is not None:
                    road = self.waiting()
                    if self.unwound(fault):
                        return (fault, road)
            elif frame.number is None:
                return frame.got
            else:
                self.end(frame)

    def waiting(self):
        return [(frame.path, frame.row) for frame in self.pile if frame.number is not None]

    def end(self, frame):
        self.pile.pop()
        self.log.append(("end", frame.number))
        self.pile[-1].got = ("module", frame.number)
        above, dot, name = frame.path.rpartition(".")
        if frame.began and dot:
            self.names[self.table[above]][name] = ("module", frame.number)

    def unwound(self, fault):
        """Goes to where the fault is caught; tells whether it came to the outside."""
        while self.pile:
            frame = self.pile[-1]
            while frame.catchers:
                words, target = frame.catchers.pop()
                if fault[0] in words or "ALL" in words:
                    self.log.append(("caught", frame.number, frame.row, fault[0]))
                    frame.at = target
                    return False
            self.pile.pop()
            if frame.number is not None:
                self.log.append(("fail", frame.number, fault))
            if frame.began:
                del self.table[frame.path]
                self.failed.append(frame.number)
                self.fallen[frame.path] = (frame.number, fault)
        return True

    def body_of(self, path):
        return next((finder[path] for finder in self.finders if path in finder), None)

    def enter(self, word, number, path, body, began):
        self.log.append((word, number, path))
        by = self.pile[-1]
        self.paper.append((number, by.number, by.row))
        self.pile.append(Frame(number, path, laid_out(body), began))

    def one(self, path):
        """Takes one path; got is its module, now or at the end of its body."""
        if path in self.table:
            self.log.append(("have", self.table[path]))
            self.pile[-1].got = ("module", self.table[path])
            return None
        if path in self.fallen:
            self.log.append(("again", self.fallen[path][0]))
            return self.fallen[path][1]
        body = self.body_of(path)
        if body is None:
            return ("NOMODULE", path)
        number = len(self.paths) + 1
        self.paths[number] = path
        self.names[number] = {}
        self.table[path] = number
        self.enter("begin", number, path, body, True)
        return None

    def step(self, frame, word, parts):
        """Does a step; tells the fault, if there is one."""
        if word == "one":
            return self.one(parts[0])
        if word == "anew":
            body = self.body_of(parts[0])
            if body is None:
                return ("NOMODULE", parts[0])
            self.enter("anew", self.table[parts[0]], parts[0], body, False)
        elif word == "find":
            return self.find(frame, parts[0], parts[1])
        elif word == "keep":
            self.names[frame.number][parts[0]] = frame.got
        elif word == "set":
            self.names[frame.number][parts[0]] = parts[1]
        elif word == "late":
            self.names[frame.number][parts[0]] = ("function", frame.number, parts[1])
        elif word in ("now", "ask"):
            fault, thing = (self.follow if word == "now" else self.follow_and_ask)(frame.number, parts[1])
            if fault is not None:
                return fault
            self.names[frame.number][parts[0]] = thing
        elif word == "note":
            there = self.table.get(parts[0])
            self.log.append(("note", frame.number, None if there is None else tuple(sorted(self.names[there]))))
        elif word == "fail":
            return (parts[0],)
        elif word == "guard":
            frame.catchers.append((parts[0], frame.at + parts[1]))
        elif word == "unguard":
            frame.catchers.pop()
        else:
            frame.at += parts[0]
        return None

    def find(self, frame, path, name):
        number = frame.got[1]
        inner = path + "." + name
        if name not in self.names[number] and inner.count(".") < 4:
            if inner in self.table or self.body_of(inner) is not None:
                return self.one(inner)
        fault, frame.got = self.look(number, name)
        return fault

    # How things are looked for: tuples (fault, thing), one of them None.

    def look(self, number, name):
        if name in self.names[number]:
            return None, self.names[number][name]
        chain = [frame.number for frame in self.pile if frame.number is not None]
        if number in chain:
            return ("HALF", self.paths[number], name, tuple(self.waiting()[chain.index(number):])), None
        return ("NONAME", self.paths[number], name), None

    def holder(self, number, road):
        """The module in which the road's last name is to be looked for, and that name."""
        *ahead, last = road.split(".")
        for name in ahead:
            fault, thing = self.look(number, name)
            if fault is not None:
                return fault, None, last
            if not isinstance(thing, tuple) or thing[0] != "module":
                return ("FLAT", self.paths[number], name), None, last
            number = thing[1]
        return None, number, last

    def follow(self, number, road):
        fault, there, last = self.holder(number, road)
        return (fault, None) if fault is not None else self.look(there, last)

    def follow_and_ask(self, number, road):
        fault, there, last = self.holder(number, road)
        if fault is None:
            fault, thing = self.look(there, last)
        if fault is not None:
            return fault, None
        if not isinstance(thing, tuple) or thing[0] != "function":
            return ("NOTASK", self.paths[there], last), None
        return self.follow(thing[1], thing[2])

"""Names drawn out of modules, roads followed now, functions made and asked."""

from halfmade.errors import Failed, Fault, NoRoad, NotTaken
from halfmade.looking import follow, follow_and_ask, look
from halfmade.paths import is_path
from halfmade.runs import Runs, check_path
from halfmade.things import Late, told


def check_road(road):
    # A road is written as a path is.
    if not is_path(road):
        raise NoRoad("no road")


class Draws(Runs):
    """Runs whose bodies draw, look now or late, and ask."""

    def thing(self, path, road):
        """The thing, as it is told, to which a road leads from the module at a path."""
        module = self.module_at(path)
        check_road(road)
        try:
            return told(follow(module, road, self.chain))
        except Fault as e:
            raise Failed(e.fault, []) from None

    def ask(self, path, road):
        """What the function tells to which a road leads from the module at a path."""
        module = self.module_at(path)
        check_road(road)
        try:
            return told(follow_and_ask(module, road, self.chain))
        except Fault as e:
            raise Failed(e.fault, []) from None

    def module_at(self, path):
        """The module that the table has at a path, which may be anything."""
        check_path(path)
        if path not in self.standing:
            raise NotTaken("the table has no such path")
        return self.standing[path]

    def do(self, row):
        """Does draw, now, late and ask rows, and those of the class above."""
        word = row[0]
        home = self.running()
        if word == "draw":
            module = self.taken(row[2])
            home.bind(row[1], self.drawn(module, row[3]))
        elif word == "now":
            home.bind(row[1], follow(home, row[2], self.chain))
        elif word == "late":
            home.bind(row[1], Late(home, row[2]))
        elif word == "ask":
            home.bind(row[1], follow_and_ask(home, row[2], self.chain))
        else:
            super().do(row)

    def drawn(self, module, name):
        """The thing that a draw finds in the module that it took."""
        return look(module, name, self.chain)

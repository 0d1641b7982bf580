"""Modules and functions: what names are bound to besides whole numbers."""


class Module:
    """A module: a number, a path, and names bound to things."""

    def __init__(self, number, path):
        self.number = number
        self.path = path
        self.things = {}

    def bind(self, name, thing):
        """Binds a name to a thing, in the place of what it was bound to."""
        self.things[name] = thing

    def has(self, name):
        """Whether a name is bound here."""
        return name in self.things

    def thing_of(self, name):
        """The thing to which a name is bound, or None."""
        return self.things.get(name)

    def bound(self):
        """The sorted list of the names that are bound."""
        return sorted(self.things)


class Late:
    """A function: the module that is its home, and the road that it follows when it is asked."""

    def __init__(self, home, road):
        self.home = home
        self.road = road


def told(thing):
    """A thing as it is told: a number as itself, a module or a function as a tuple."""
    if isinstance(thing, Module):
        return ("module", thing.number)
    if isinstance(thing, Late):
        return ("function", thing.home.number, thing.road)
    return thing

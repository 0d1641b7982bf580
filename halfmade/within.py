"""Modules within modules: a path is taken with its beginnings."""

from halfmade.paths import beginnings, last_name, parent
from halfmade.tries import Tries


class Within(Tries):
    """Tries whose paths have beginnings, each a module of its own."""

    def taken(self, path):
        """Takes all beginnings of a path: the module of the last one."""
        for beginning in beginnings(path)[:-1]:
            self.taken_alone(beginning)
        return self.taken_alone(path)

    def begin(self, path, body):
        """Begins a body, and binds its module in the parent's one behind the end."""
        module = super().begin(path, body)
        above = parent(path)
        if above is not None:
            # The table has the parent: it was taken ahead, and could not fail while this body was run.
            self.standing[above].bind(last_name(path), module)
        return module

    def drawn(self, module, name):
        """The thing of a name in a module; else the module at the path within, if there is one."""
        path = f"{module.path}.{name}"
        if not module.has(name) and self.is_at_hand(path):
            return self.taken_alone(path)
        return super().drawn(module, name)

    def is_at_hand(self, path):
        """Whether the table or a finder has a path."""
        return path in self.standing or self.body_at(path) is not None

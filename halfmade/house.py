"""Houses: finders that are told other bodies, modules let go and read anew."""

from halfmade.errors import Failed, NoBody, NoFinder
from halfmade.rows import is_body, is_whole
from halfmade.runs import check_path
from halfmade.within import Within


class House(Within):
    """A house, with all that can be done in it."""

    def put(self, k, path, body):
        """Tells a finder, by its number, a body for a path; body None where it forgets the path."""
        if not is_whole(k) or not 0 <= k < len(self.finders):
            raise NoFinder("no number of a finder")
        check_path(path)
        if body is not None and not is_body(body):
            raise NoBody("no body")
        finder = self.finders[k]
        if body is not None:
            finder[path] = body
        elif path in finder:
            del finder[path]

    def let_go(self, path):
        """Takes the module at a path out of the table; who holds it goes on holding it."""
        module = self.module_at(path)
        del self.standing[module.path]

    def anew(self, path):
        """Reads the module at a path anew: its number."""
        module = self.module_at(path)
        self.fallen = {}
        body = self.body_at(path)
        if body is None:
            raise Failed(("NOMODULE", path), [])
        # Nothing else than the run itself: whether it ends or fails, the module stays in the table.
        self.run("anew", module, body)
        return module.number

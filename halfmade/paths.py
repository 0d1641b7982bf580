"""Names, and the paths that are made of them."""

LETTERS_AT_MOST = 8
NAMES_AT_MOST = 4


def is_name(thing):
    """Whether a thing, whatever it is, is a NAME."""
    if not isinstance(thing, str):
        return False
    if not 1 <= len(thing) <= LETTERS_AT_MOST:
        return False
    # Not islower(): that takes letters beyond z, too.
    return all("a" <= sign <= "z" for sign in thing)


def is_path(thing):
    """Whether a thing, whatever it is, is a PATH (a ROAD is written alike)."""
    if not isinstance(thing, str):
        return False
    names = thing.split(".")
    return len(names) <= NAMES_AT_MOST and all(is_name(name) for name in names)


def beginnings(path):
    """The paths of the first name, of the first two, and so on, the path itself the last one."""
    names = path.split(".")
    return [".".join(names[:many]) for many in range(1, len(names) + 1)]


def parent(path):
    """The path without its last name; None for a path of one name."""
    ahead = beginnings(path)[:-1]
    return ahead[-1] if ahead else None


def last_name(path):
    """The last of the names of a path, or of a road."""
    return path.split(".")[-1]

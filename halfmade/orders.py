"""Orders in which the names of a plain stock are begun or taken, and what comes of them."""

from halfmade.errors import Failed
from halfmade.house import House
from halfmade.plain import AIMING, check_stock
from halfmade.rows import bound_by


def only_taking(row):
    """A row of a plain stock with a take in the place of a draw."""
    return ("take", row[1], row[2]) if row[0] == "draw" else row


def foretold(stock, name):
    """The names in the order in which their bodies begin where this one is taken and draws only take."""
    check_stock(stock)
    house = House([{other: tuple(only_taking(row) for row in stock[other]) for other in stock}])
    house.take(name)
    return [entry[2] for entry in house.log() if entry[0] == "begin"]


def house_behind(stock, names):
    """A new house in which just these names were taken, none of which is refused."""
    house = House([stock])
    for name in names:
        house.take(name)
    return house


def is_refused(stock, names, name):
    """Whether the taking of a name is refused in a house in which just these names were taken."""
    # A house of its own for each name: what is refused may leave other names whole.
    house = house_behind(stock, names)
    try:
        house.take(name)
    except Failed:
        return True
    return False


def not_whole(stock, names):
    """The sorted list of what is not whole in a house in which just these names were taken."""
    table = house_behind(stock, names).table()
    return [name for name in sorted(stock) if name not in table]


def next_of_order(stock, names):
    """The name that stands behind these in the order, or None."""
    for name in not_whole(stock, names):
        if not is_refused(stock, names, name):
            return name
    return None


def order(stock):
    """The order of a plain stock, a list, and the rest, a sorted tuple."""
    check_stock(stock)
    names = []
    name = next_of_order(stock, names)
    while name is not None:
        names.append(name)
        name = next_of_order(stock, names)
    return (names, tuple(not_whole(stock, names)))


def binds_each_once(body):
    bound = [bound_by(row) for row in body]
    return len(set(bound)) == len(bound)


def is_single(stock):
    """Whether in each body of a plain stock no two rows bind one name."""
    check_stock(stock)
    return all(binds_each_once(body) for body in stock.values())


def head_first(body):
    """A body with the rows that aim at nothing first."""
    return tuple(row for row in body if row[0] not in AIMING) + tuple(row for row in body if row[0] in AIMING)


def heads_first(stock):
    """A plain stock with all set and late rows first in each body."""
    check_stock(stock)
    return {name: head_first(stock[name]) for name in stock}


def told_by_path(house, thing):
    """A told thing with a path in the place of a module's number."""
    if not isinstance(thing, tuple):
        return thing
    return (thing[0], house.path_of(thing[1])) + thing[2:]


def by_paths(house):
    """A dict from the table's paths to dicts from names to things, modules told by their paths."""
    table = house.table()
    told = {}
    for path in table:
        names = house.names_of(table[path])
        told[path] = {name: told_by_path(house, names[name]) for name in names}
    return told

"""Plain stocks: what their bodies aim at, reach, and tie into knots."""

from halfmade.errors import NoStock
from halfmade.paths import is_name
from halfmade.rows import bound_by, is_body

AIMING = ("take", "draw")
PLAIN_WORDS = ("set", "late", "take", "draw")


def aim_of(row):
    """The path at which a row aims, or None."""
    return row[2] if row[0] in AIMING else None


def aims_of(rows):
    """The paths at which rows aim, in their order."""
    return [aim_of(row) for row in rows if aim_of(row) is not None]


def first_binding(body, name):
    """The number of the first row of a body that binds a name, or None."""
    for at, row in enumerate(body):
        if bound_by(row) == name:
            return at
    return None


def is_stock(thing):
    """Whether a thing, whatever it is, is a stock."""
    if not isinstance(thing, dict) or not all(is_name(name) for name in thing):
        return False
    return all(is_body(body) for body in thing.values())


def is_plain_row(row, stock):
    """Whether a row may stand in a plain stock."""
    if row[0] not in PLAIN_WORDS:
        return False
    aim = aim_of(row)
    if aim is not None and aim not in stock:
        return False
    return row[0] != "draw" or first_binding(stock[aim], row[3]) is not None


def is_plain(thing):
    """Whether a thing, whatever it is, is a plain stock."""
    return is_stock(thing) and all(is_plain_row(row, thing) for body in thing.values() for row in body)


def check_stock(stock):
    if not is_plain(stock):
        raise NoStock("no plain stock")


def reached(stock, name):
    """As reach, of what is known to be a plain stock."""
    found = {}
    left = aims_of(stock[name])
    while left:
        other = left.pop()
        if other not in found:
            found[other] = True
            left.extend(aims_of(stock[other]))
    return sorted(found)


def reach(stock, name):
    """The sorted list of the names that a name of a plain stock reaches."""
    check_stock(stock)
    return reached(stock, name)


def knot_of(name, reaching):
    """The sorted tuple of the names that a name reaches and that reach it; reaching has all lists."""
    return tuple(other for other in reaching[name] if name in reaching[other])


def knots(stock):
    """The sorted list of the knots of a plain stock."""
    check_stock(stock)
    reaching = {name: reached(stock, name) for name in stock}
    return sorted({knot_of(name, reaching) for name in stock if name in reaching[name]})

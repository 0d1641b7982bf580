"""Whether anything can be refused of a plain stock: lots and snares."""

from halfmade.paths import is_name
from halfmade.plain import aim_of, aims_of, check_stock, first_binding
from halfmade.rows import is_whole


def is_row_of(stock, name, row):
    """Whether a name and a number, which may be anything, tell a row of a stock."""
    if not is_name(name) or name not in stock:
        return False
    return is_whole(row) and 0 <= row < len(stock[name])


def rows_till_bound(stock, draw):
    """The rows, of the body out of which a draw row draws, up to the first one that binds what is drawn."""
    body = stock[draw[2]]
    return body[:first_binding(body, draw[3]) + 1]


def are_unlike_names(stock, thing):
    """Whether a thing, whatever it is, is a sorted tuple of unlike names of a stock."""
    if not isinstance(thing, tuple) or not all(is_name(name) and name in stock for name in thing):
        return False
    return list(thing) == sorted(set(thing))


def is_lot(stock, name, row, thing):
    """Whether a thing, whatever it is, is a lot that fits a draw out of another body."""
    check_stock(stock)
    if not is_row_of(stock, name, row) or not are_unlike_names(stock, thing):
        return False
    draw = stock[name][row]
    if draw[0] != "draw" or draw[2] == name or name in thing:
        return False
    needed = aims_of(rows_till_bound(stock, draw))
    for other in thing:
        needed.extend(aims_of(stock[other]))
    return all(aim == draw[2] or aim in thing for aim in needed)


def is_place(stock, thing):
    return isinstance(thing, tuple) and len(thing) == 2 and is_row_of(stock, thing[0], thing[1])


def are_places(stock, thing):
    """Whether a thing, whatever it is, is a list, not [], of tuples (name, row) of unlike names."""
    if not isinstance(thing, list) or not thing or not all(is_place(stock, part) for part in thing):
        return False
    return len({name for name, row in thing}) == len(thing)


def is_snare(stock, thing):
    """Whether a thing, whatever it is, is a snare of a plain stock."""
    check_stock(stock)
    if not are_places(stock, thing):
        return False
    home, first = thing[0]
    name, last = thing[-1]
    draw = stock[name][last]
    # Of one tuple alone this is a draw out of its own body that is not fit.
    if draw[0] != "draw" or draw[2] != home or first >= len(rows_till_bound(stock, draw)):
        return False
    aims = [aim_of(stock[other][row]) for other, row in thing[:-1]]
    return aims == [other for other, row in thing[1:]]


def ways_from(stock, home, rows):
    """How other names are come to from these first rows of a home, without its body being entered again.

    A dict from the names to lists of tuples (name, row): each row aims at the next name, the
    last one at this name. The home itself is there with the list [].
    """
    ways = {home: []}
    left = [home]
    while left:
        name = left.pop(0)
        body = rows if name == home else stock[name]
        for at, row in enumerate(body):
            aim = aim_of(row)
            if aim is not None and aim not in ways:
                ways[aim] = ways[name] + [(name, at)]
                left.append(aim)
    return ways


def draws_of(stock):
    """All draws of a stock, as tuples (name, row), sorted."""
    return [(name, at) for name in sorted(stock) for at, row in enumerate(stock[name]) if row[0] == "draw"]


def safe(stock):
    """A lot for each draw of a plain stock out of another body; or a snare."""
    check_stock(stock)
    lots = {}
    for name, at in draws_of(stock):
        draw = stock[name][at]
        home, rows = draw[2], rows_till_bound(stock, draw)
        if home == name:
            if at < len(rows):
                return ("unsafe", [(name, at)])
            continue
        ways = ways_from(stock, home, rows)
        if name in ways:
            return ("unsafe", ways[name] + [(name, at)])
        lots[(name, at)] = tuple(other for other in sorted(ways) if other != home)
    return ("safe", lots)

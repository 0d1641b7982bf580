"""What the tests of plain stocks share: stocks, what is none, and lots and snares by the document's words."""

import itertools

from tests.things_at_hand import LINE, no_texts

ALONE = {"a": (LINE,)}
# a and b take each other; b draws what a binds ahead of that, and what behind it.
FIT_RING = {"a": (LINE, ("take", "b", "b")), "b": (("draw", "y", "a", "x"),)}
SNARED_RING = {"a": (("take", "b", "b"), LINE), "b": (("draw", "y", "a", "x"),)}
SIXTEEN = "abcdefghijklmnop"


def no_plain_stocks():
    """Things that are no plain stock, of each way in which a thing is none."""
    no_dicts = [thing for thing in no_texts() if not isinstance(thing, dict)] + ["", "a", [ALONE], (ALONE,), list(ALONE.items())]
    no_names = [{name: ()} for name in ("", "A", "a.b", "abcdefghi", "a1", " a", 1, None, True, ("a",), b"a")]
    no_names.append({"a": (), "b.c": ()})
    no_bodies = [{"a": body} for body in (None, [], [LINE], "x", 1, LINE, (LINE, None), (("set", "x"),), (("set", "x", True),), (LINE,) * 41)]
    other_rows = [{"a": (LINE, row)} for row in (
        ("now", "y", "x"), ("ask", "y", "x"), ("note", "a"), ("fail", "stop"), ("try", (), (), ()), ("try", (LINE,), ("ALL",), (LINE,)))]
    other_paths = [{"a": (("take", "y", path),)} for path in ("b", "a.a", "a.b", "b.a")]
    other_paths += [{"a": (LINE, ("draw", "y", path, "x"))} for path in ("b", "a.a", "a.x")]
    unbound = [
        {"a": (("draw", "y", "a", "x"),)}, {"a": (LINE, ("draw", "y", "a", "z"))}, {"a": (LINE, ("draw", "y", "b", "x")), "b": ()},
        {"a": (("draw", "y", "b", "x"),), "b": (("take", "y", "a"), ("late", "z", "x"))},
    ]
    last_of_two = [{"a": (LINE,), "b": (("take", "x", "a"), ("take", "y", "c"))}, {"b": (), "a": (("note", "b"),)}]
    return no_dicts + no_names + no_bodies + other_rows + other_paths + unbound + last_of_two


def bodies_of(rows, most):
    return [body for many in range(most + 1) for body in itertools.product(rows, repeat=many)]


def is_plain_by_words(stock):
    """As the document says it, of a stock of set, late, take and draw rows."""
    for body in stock.values():
        for row in body:
            if row[0] in ("take", "draw") and row[2] not in stock:
                return False
            if row[0] == "draw" and row[3] not in [other[1] for other in stock[row[2]]]:
                return False
    return True


def small_stocks():
    """Every plain stock of two bodies of at most two rows out of a few, and each of one."""
    rows = [("set", "x", 1), ("take", "x", "a"), ("take", "y", "b"), ("draw", "x", "a", "x"), ("draw", "y", "b", "x"), ("draw", "x", "b", "y")]
    for one in bodies_of(rows, 3):
        if is_plain_by_words({"a": one}):
            yield {"a": one}
    for one, other in itertools.product(bodies_of(rows, 2), repeat=2):
        if is_plain_by_words({"a": one, "b": other}):
            yield {"a": one, "b": other}


def thrown_stock(dice, names, most, single=False):
    """A plain stock of these names; each body binds x, so that it can be drawn out of each."""
    stock = {}
    for name in names:
        rows = []
        for at in range(dice.below(most + 1)):
            bound = "klmnopqr"[at] if single else dice.one_of("xkl")
            aim = dice.one_of(names)
            rows.append(dice.one_of((("set", bound, at), ("late", bound, "x"), ("take", bound, aim), ("draw", bound, aim, "x"), ("draw", bound, aim, "x"))))
        last = dice.one_of((("set", "x", dice.below(9)), ("take", "x", dice.one_of(names)), ("late", "x", "x.x")))
        rows.insert(dice.below(len(rows) + 1), last)
        stock[name] = tuple(rows)
    return stock


def aims(rows):
    return [row[2] for row in rows if row[0] in ("take", "draw")]


def first_row(stock, m, x):
    """p: the first row of m that binds x."""
    return [row[1] for row in stock[m]].index(x)


def draws(stock):
    """All draws as tuples (c, q, m, x)."""
    return [(c, q, row[2], row[3]) for c, body in stock.items() for q, row in enumerate(body) if row[0] == "draw"]


def fits_by_words(stock, c, q, lot):
    """Whether a tuple of names fits a draw out of another body, as point 23 says it."""
    m, x = stock[c][q][2:]
    p = first_row(stock, m, x)
    has_first = all(name in lot for name in aims(stock[m][:p + 1]) if name != m)
    has_next = all(name in lot for other in lot for name in aims(stock[other]) if name != m)
    return has_first and has_next and c not in lot


def lots_by_words(stock, c, q):
    """All lots that fit a draw."""
    names = sorted(stock)
    tuples = [lot for many in range(len(names) + 1) for lot in itertools.combinations(names, many)]
    return [lot for lot in tuples if fits_by_words(stock, c, q, lot)]


def is_snare_by_words(stock, places):
    """Whether a list of tuples (name, row) of unlike names is a snare, as point 24 says it."""
    name, row = places[-1]
    last = stock[name][row]
    if last[0] != "draw":
        return False
    m, x = last[2:]
    p = first_row(stock, m, x)
    if len(places) == 1:
        return name == m and not p < row
    if places[0][0] != m or places[0][1] > p:
        return False
    return all(aims([stock[one][at]]) == [other] for (one, at), (other, behind) in zip(places, places[1:]))


def all_places(stock):
    """Each list of tuples (name, row) of unlike names."""
    for many in range(1, len(stock) + 1):
        for names in itertools.permutations(sorted(stock), many):
            for rows in itertools.product(*[range(len(stock[name])) for name in names]):
                yield list(zip(names, rows))


def snares_by_words(stock):
    return [places for places in all_places(stock) if is_snare_by_words(stock, places)]

"""Names looked for in modules, roads followed, functions asked."""

from halfmade.errors import Fault
from halfmade.paths import last_name
from halfmade.things import Late, Module


def places(chain):
    """The list of tuples (path, row) of a chain."""
    return [(module.path, row) for module, row in chain]


def ring_of(module, chain):
    """The places of a chain from a module on to its end; () where the module isn't in it."""
    for at, (waiting, row) in enumerate(chain):
        # Modules have no likeness of their own: this is the very module, not one of its path.
        if waiting == module:
            return tuple(places(chain[at:]))
    return ()


def look(module, name, chain):
    """The thing that a name has in a module; else Fault, HALF or NONAME."""
    if module.has(name):
        return module.thing_of(name)
    ring = ring_of(module, chain)
    if ring:
        raise Fault(("HALF", module.path, name, ring))
    raise Fault(("NONAME", module.path, name))


def look_for_module(module, name, chain):
    """As look, but Fault, FLAT, where the thing is no module."""
    thing = look(module, name, chain)
    if not isinstance(thing, Module):
        raise Fault(("FLAT", module.path, name))
    return thing


def last_module(module, road, chain):
    """The module in which the last name of a road is to be looked for; else Fault."""
    for name in road.split(".")[:-1]:
        module = look_for_module(module, name, chain)
    return module


def follow(module, road, chain):
    """The thing to which a road leads from a module; else Fault."""
    return look(last_module(module, road, chain), last_name(road), chain)


def asked(late, chain):
    """What a function tells when it is asked, its home being as it is now; else Fault."""
    return follow(late.home, late.road, chain)


def follow_and_ask(module, road, chain):
    """What the function tells to which a road leads from a module; else Fault."""
    holder = last_module(module, road, chain)
    name = last_name(road)
    thing = look(holder, name, chain)
    if not isinstance(thing, Late):
        raise Fault(("NOTASK", holder.path, name))
    return asked(thing, chain)

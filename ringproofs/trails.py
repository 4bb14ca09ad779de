"""Trails: whether a thing is one, and in which world it's the longest."""

from ringproofs.terms import is_number
from ringproofs.walks import trail_in, walker_of
from ringproofs.worlds import worlds


def _is_row(thing):
    if not isinstance(thing, tuple) or len(thing) != 2 or not is_number(thing[0]) or not isinstance(thing[1], list):
        return False
    return all([is_number(high) for high in thing[1]])


def shows_trail(defs, chart, world, thing):
    """Whether a thing is the trail of the walk in this WORLD; refused as the walk is."""
    trail = trail_in(defs, chart, world)
    # True is 1 to Python, and no number here: so the kinds are looked at, too.
    return isinstance(thing, list) and all([_is_row(row) for row in thing]) and thing == trail


def longest(defs, chart, most):
    """(world, how many rows) of the first of the worlds in which all hyps hold with the longest trail, or None."""
    walker = walker_of(defs, chart)
    best = None
    for world in worlds(chart[0], most):
        if None not in walker.heights(0, world):
            many = walker.many(world)
            if best is None or many > best[1]:
                best = (world, many)
    return best

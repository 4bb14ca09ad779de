"""Rings: what leaps come to together; papers, which show that all rings fall."""

from ringproofs.leaps import by_key, leap_key, leaps, together
from ringproofs.terms import is_place


def joined(first, second):
    """The key of two rings together, one ending where the other begins, told by theirs."""
    return (first[0], second[1], tuple(together(first[2], second[2])))


def all_rings(keys):
    """By the key of each ring that comes of leaps of these keys: the key of the ring that it comes of, and of the leap
    that stands behind that; of a leap itself None, and itself.

    Each ring is a row of leaps, so it's enough to put leaps alone behind what is there.
    """
    found = {key: (None, key) for key in keys}
    level = list(found)
    while level:
        new = {}
        for key in level:
            for leap in keys:
                if leap[0] == key[1]:
                    new.setdefault(joined(key, leap), (key, leap))
        level = [key for key in new if key not in found]
        for key in level:
            found[key] = new[key]
    return found


def never_falls(key):
    """Whether a ring comes back to where it begins, is the same together with itself, and no hyp falls to itself."""
    line, other, links = key
    if line != other or joined(key, key) != key:
        return False
    return not any([place == after and falls == 1 for place, after, falls in links])


def rings(defs, chart, *, known=()):
    """The rising list of all rings, as (line, other, links); BadChart(line)."""
    keys = [leap_key(leap) for leap in leaps(defs, chart, known=known)]
    return [by_key(key) for key in sorted(all_rings(keys))]


def _is_link(thing):
    if not isinstance(thing, tuple) or len(thing) != 3 or not all([is_place(part) for part in thing]):
        return False
    return thing[2] <= 1


def _is_links(thing):
    if not isinstance(thing, list) or not all([_is_link(link) for link in thing]):
        return False
    return all([left[:2] < right[:2] for left, right in zip(thing, thing[1:])])


def _is_ring(thing):
    if not isinstance(thing, tuple) or len(thing) != 3:
        return False
    return is_place(thing[0]) and is_place(thing[1]) and _is_links(thing[2])


def _is_closed_up(keys):
    """Whether of each two rings, one ending where the other begins, that one is there too."""
    there = {key: True for key in keys}
    for first in keys:
        for second in keys:
            if first[1] == second[0] and joined(first, second) not in there:
                return False
    return True


def shows_falls(defs, chart, thing, *, known=()):
    """Whether a thing is a paper: a list of rings, by which all of the chart's fall; BadChart(line)."""
    wanted = leaps(defs, chart, known=known)
    if not isinstance(thing, list) or not all([_is_ring(ring) for ring in thing]):
        return False
    if not all([leap in thing for leap in wanted]) or any([never_falls(leap_key(ring)) for ring in thing]):
        return False
    return _is_closed_up([leap_key(ring) for ring in thing])

"""How closed ATOMs hold: their heights and derivations."""

from ringproofs.numbered import Numbered
from ringproofs.rules import is_atom
from ringproofs.terms import is_closed, is_number


def _head_values(head, key, numbered):
    """What the variables 0, 1 .. of a rule's head are put for, that it is the ATOM of this key; else None."""
    if len(head) != len(key):
        return None
    values = []
    for term, number in zip(head[1:], key[1:]):
        if isinstance(term, int):
            values.append(number)
        else:
            sign, *below = numbered.shape(number)
            if sign != term[0]:
                return None
            values.extend(below)
    return values


def _bodies(defs, key, numbered):
    """The bodies, as keys, by which the ATOM of this key may hold, by the places of their rules."""
    found = {}
    for k, (head, body) in enumerate(defs.rules(key[0])):
        values = _head_values(head, key, numbered)
        if values is not None:
            found[k] = [(atom[0], *[values[variable] for variable in atom[1:]]) for atom in body]
    return found


def _all_bodies(defs, goal, numbered):
    """The bodies of the goal, of all ATOMs in them, and so on.

    A body's TERMs are parts of the head's, so there's an end even where rules lead round.
    """
    found = {}
    todo = [goal]
    while todo:
        key = todo.pop()
        if key not in found:
            found[key] = _bodies(defs, key, numbered)
            todo.extend([atom for body in found[key].values() for atom in body])
    return found


def _waiting(bodies):
    """For each ATOM the list of all (key, k) in whose body it stands, as often as it does."""
    found = {}
    for key, ways in bodies.items():
        for k, body in ways.items():
            for atom in body:
                found.setdefault(atom, []).append((key, k))
    return found


def _heights(bodies):
    """The heights of all ATOMs that hold: level by level, so the first one found for each is the least."""
    waiting = _waiting(bodies)
    wanting = {(key, k): len(body) for key, ways in bodies.items() for k, body in ways.items()}
    ready = [way for way, many in wanting.items() if many == 0]
    heights = {}
    now = 1
    while ready:
        level = {key: True for key, _ in ready if key not in heights}
        ready = []
        for key in level:
            heights[key] = now
            for way in waiting.get(key, []):
                wanting[way] -= 1
                if wanting[way] == 0:
                    ready.append(way)
        now += 1
    return heights


def _gives(body, heights, wanted):
    """Whether an ATOM is of this height by this body."""
    if not all([key in heights for key in body]):
        return False
    return wanted == 1 + max([heights[key] for key in body], default=0)


def _first_place(key, bodies, heights):
    """The place of the first rule by which an ATOM that holds is of its height."""
    return [k for k, body in bodies[key].items() if _gives(body, heights, heights[key])][0]


class Heights:
    """Heights of many closed ATOMs by the same Definitions: what one of them needed isn't looked for again."""

    def __init__(self, defs):
        self._defs = defs
        self._numbered = Numbered()
        self._bodies = {}
        self._found = {}

    def _key(self, atom):
        """The ATOM's key, its height and those of all that it may need being found."""
        key = self._numbered.key(atom)
        if key not in self._bodies:
            bodies = _all_bodies(self._defs, key, self._numbered)
            self._bodies.update(bodies)
            self._found.update(_heights(bodies))
        return key

    def height_of(self, atom):
        """The height of a closed ATOM, None where it doesn't hold."""
        return self._found.get(self._key(atom))

    def place_of(self, atom):
        """The place of the rule by which a closed ATOM that holds stands in its derivation."""
        return _first_place(self._key(atom), self._bodies, self._found)


def height(defs, atom):
    """The height of a closed ATOM, None where it doesn't hold."""
    return Heights(defs).height_of(atom)


def _needed(goal, bodies, heights):
    """The goal and all ATOMs that it needs, each with the place of the first rule by which it's of its height."""
    found = {}
    todo = [goal]
    while todo:
        key = todo.pop()
        if key not in found:
            found[key] = _first_place(key, bodies, heights)
            todo.extend(bodies[key][found[key]])
    return found


def derivation(defs, atom):
    """None where a closed ATOM doesn't hold, or the list of (ATOM, k) by which it does."""
    numbered = Numbered()
    goal = numbered.key(atom)
    bodies = _all_bodies(defs, goal, numbered)
    heights = _heights(bodies)
    if goal not in heights:
        return None
    needed = _needed(goal, bodies, heights)
    rows = sorted([(heights[key], numbered.atom(key), k) for key, k in needed.items()])
    return [(found, k) for _, found, k in rows]


def _is_row(thing):
    if not isinstance(thing, tuple) or len(thing) != 2 or not is_atom(thing[0]) or not is_number(thing[1]):
        return False
    return all([is_closed(term) for term in thing[0][1:]])


def is_derivation(defs, atom, thing):
    """Whether a thing is a list of (ATOM, k) by which a closed ATOM holds."""
    if not isinstance(thing, list) or not thing or not all([_is_row(row) for row in thing]):
        return False
    numbered = Numbered()
    ahead = {}
    for found, k in thing:
        key = numbered.key(found)
        body = _bodies(defs, key, numbered).get(k)
        if key in ahead or body is None or not all([other in ahead for other in body]):
            return False
        ahead[key] = True
    return thing[-1][0] == atom

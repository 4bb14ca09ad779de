"""SAYINGs, and by which BINDINGs one comes of another."""

from ringproofs.rules import atom_put, atom_variables, is_atom
from ringproofs.termtexts import binding_text

MOST_HYPS = 6


def unlike(atoms):
    """The tuple of some ATOMs, of alike ones the first kept."""
    found = []
    for atom in atoms:
        if atom not in found:
            found.append(atom)
    return tuple(found)


def is_saying(thing):
    """Whether a thing is a SAYING."""
    if not isinstance(thing, tuple) or len(thing) != 2:
        return False
    hyps, goal = thing
    if not isinstance(hyps, tuple) or len(hyps) > MOST_HYPS:
        return False
    return all([is_atom(atom) for atom in (*hyps, goal)]) and len(unlike(hyps)) == len(hyps)


def saying_variables(saying):
    """The rising list of a saying's variables."""
    hyps, goal = saying
    return sorted({variable for atom in (*hyps, goal) for variable in atom_variables(atom)})


def saying_put(saying, binding):
    """The saying with the BINDING put into each ATOM, of hyps that come to be alike the first kept."""
    hyps, goal = saying
    return (unlike([atom_put(hyp, binding) for hyp in hyps]), atom_put(goal, binding))


def comes_of(saying, other, binding):
    """Whether a saying comes of the other one by the BINDING."""
    if [variable for variable, _ in binding] != saying_variables(other):
        return False
    put_hyps, put_goal = saying_put(other, binding)
    hyps, goal = saying
    return put_goal == goal and all([hyp in hyps for hyp in put_hyps])


def _matched(pattern, atom, ahead):
    """What is put for the pattern's variables that it comes to be the ATOM, with what was put ahead; else None."""
    if pattern[0] != atom[0] or len(pattern) != len(atom):
        return None
    found = dict(ahead)
    todo = list(zip(pattern[1:], atom[1:]))
    while todo:
        left, right = todo.pop()
        if isinstance(left, int):
            if found.setdefault(left, right) != right:
                return None
        elif isinstance(right, int) or left[0] != right[0]:
            return None
        else:
            todo.extend(list(zip(left[1:], right[1:])))
    return found


def bindings(saying, other):
    """The list of all BINDINGs by which a saying comes of the other one, rising by their texts."""
    hyps, goal = saying
    found = [_matched(other[1], goal, {})]
    for pattern in other[0]:
        found = [_matched(pattern, hyp, ahead) for ahead in found if ahead is not None for hyp in hyps]
    told = [tuple(sorted(way.items())) for way in found if way is not None]
    return sorted(told, key=binding_text)

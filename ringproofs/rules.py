"""NAMEs, ATOMs and RULEs."""

from ringproofs.terms import is_term, put, variables

LETTERS = "abcdefghijklmnopqrstuvwxyz"
MOST_LETTERS = 6
MOST_BODY = 3


def is_name(thing):
    """Whether a thing is a NAME."""
    if not isinstance(thing, str) or not 1 <= len(thing) <= MOST_LETTERS:
        return False
    return thing != "if" and all([sign in LETTERS for sign in thing])


def is_atom(thing):
    """Whether a thing is an ATOM."""
    if not isinstance(thing, tuple) or not 2 <= len(thing) <= 3:
        return False
    return is_name(thing[0]) and all([is_term(term) for term in thing[1:]])


def _head_variables(head):
    """What stands in a head where only variables may, in order."""
    found = []
    for term in head[1:]:
        found.extend([term] if isinstance(term, int) else term[1:])
    return found


def _is_head(thing):
    if not is_atom(thing):
        return False
    found = _head_variables(thing)
    return found == list(range(len(found)))


def _is_body(thing, known):
    """Whether a thing is a body, the head's variables being known."""
    if not isinstance(thing, tuple) or len(thing) > MOST_BODY or not all([is_atom(atom) for atom in thing]):
        return False
    return all([term in known for atom in thing for term in atom[1:]])


def is_rule(thing):
    """Whether a thing is a RULE."""
    if not isinstance(thing, tuple) or len(thing) != 2 or not _is_head(thing[0]):
        return False
    return _is_body(thing[1], _head_variables(thing[0]))


def atom_variables(atom):
    """The rising list of an ATOM's variables."""
    return sorted({variable for term in atom[1:] for variable in variables(term)})


def atom_put(atom, binding):
    """The ATOM with the BINDING put into each of its TERMs."""
    return (atom[0], *[put(term, binding) for term in atom[1:]])

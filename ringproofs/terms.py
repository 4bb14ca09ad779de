"""TERMs (variables, noughts, steps, forks) and BINDINGs.

Nothing here calls itself, so a TERM may be as deep as it likes.
"""

LAST_VARIABLE = 99
SHAPES = (("0", 1), ("s", 2), ("f", 3))


def is_number(thing):
    """Whether a thing is a whole number: True and False are none."""
    return isinstance(thing, int) and not isinstance(thing, bool)


def is_place(thing):
    """Whether a thing is a number from 0."""
    return is_number(thing) and thing >= 0


def is_variable(thing):
    """Whether a thing is a variable."""
    return is_number(thing) and 0 <= thing <= LAST_VARIABLE


def _has_shape(thing):
    if not isinstance(thing, tuple) or not thing:
        return False
    return (thing[0], len(thing)) in SHAPES


def is_term(thing):
    """Whether a thing is a TERM."""
    todo = [thing]
    while todo:
        part = todo.pop()
        if _has_shape(part):
            todo.extend(part[1:])
        elif not is_variable(part):
            return False
    return True


def _parts(term):
    return () if isinstance(term, int) else term[1:]


def inside_out(term):
    """The list of all TERMs of which a TERM is made, itself last, each behind its own parts."""
    found = []
    todo = [term]
    while todo:
        part = todo.pop()
        found.append(part)
        todo.extend(_parts(part))
    return found[::-1]


def fold(term, made_of):
    """What made_of(part, what its parts came to) makes of a TERM, from its inmost parts on."""
    made = []
    for part in inside_out(term):
        first = len(made) - len(_parts(part))
        made[first:] = [made_of(part, made[first:])]
    return made[0]


def variables(term):
    """The rising list of a TERM's variables."""
    return sorted({part for part in inside_out(term) if isinstance(part, int)})


def size(term):
    """How many signs a TERM has."""
    return len(inside_out(term))


def is_closed(thing):
    """Whether a thing is a TERM without variables."""
    return is_term(thing) and not variables(thing)


def _is_pair(thing):
    return isinstance(thing, tuple) and len(thing) == 2 and is_variable(thing[0]) and is_term(thing[1])


def is_binding(thing):
    """Whether a thing is a BINDING."""
    if not isinstance(thing, tuple) or not all([_is_pair(pair) for pair in thing]):
        return False
    return all([left[0] < right[0] for left, right in zip(thing, thing[1:])])


def put(term, binding):
    """The TERM with each variable that has a pair exchanged for its TERM, all at once."""
    found = dict(binding)

    def exchanged(part, below):
        if isinstance(part, int):
            return found.get(part, part)
        return (part[0], *below)

    return fold(term, exchanged)

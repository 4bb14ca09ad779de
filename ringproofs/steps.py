"""STEPs, and how a rule fits an ATOM of a saying."""

from ringproofs.rules import is_atom, is_name
from ringproofs.sayings import is_saying, saying_variables
from ringproofs.terms import is_binding, is_place, put


def is_step(thing):
    """Whether a thing is a STEP."""
    if not isinstance(thing, tuple) or not 1 <= len(thing) <= 3:
        return False
    word, *parts = thing
    if len(parts) == 0:
        return word == "by"
    if len(parts) == 1:
        return is_atom(parts[0]) if word == "cut" else word in ("split", "use") and is_place(parts[0])
    first, binding = parts
    if word == "back":
        return is_place(first) and is_binding(binding)
    if word == "as":
        return is_saying(first) and is_binding(binding)
    return word == "lean" and is_name(first) and is_binding(binding)


def fits(rule, atom, saying):
    """How a rule fits an ATOM of a saying: the BINDINGs of the saying's variables and of the rule's; else None.

    New variables may come to be above 99 here: whether that's refused hangs on
    whether the rule fits at all, which is known behind its last TERM alone.
    """
    head = rule[0]
    if len(head) != len(atom):
        return None
    new = max(saying_variables(saying), default=-1) + 1
    binding = ()
    values = []
    for pattern, term in zip(head[1:], atom[1:]):
        now = put(term, binding)
        if isinstance(pattern, int):
            values.append(now)
            continue
        if isinstance(now, int):
            above = new + len(pattern) - 1
            opened = (pattern[0], *list(range(new, above)))
            binding = tuple(sorted([*binding, (now, opened)]))
            now, new = opened, above
        if now[0] != pattern[0]:
            return None
        values.extend(now[1:])
    return (binding, tuple(enumerate([put(value, binding) for value in values])))

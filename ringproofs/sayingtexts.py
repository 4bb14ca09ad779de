"""The texts of SAYINGs."""

from ringproofs.errors import BadText
from ringproofs.ruletexts import atom_or_none, atom_text, atoms_or_nones, atoms_text
from ringproofs.sayings import is_saying

BARE = "|- "
PARTING = " |- "


def saying_text(saying):
    """The text of a SAYING."""
    hyps, goal = saying
    if not hyps:
        return BARE + atom_text(goal)
    return atoms_text(hyps) + PARTING + atom_text(goal)


def saying_or_none(text):
    """The SAYING whose text it is, else None."""
    if text.startswith(BARE):
        saying = ((), atom_or_none(text[len(BARE):]))
    else:
        hyps, _, goal = text.partition(PARTING)
        saying = (atoms_or_nones(hyps), atom_or_none(goal))
    return saying if is_saying(saying) else None


def saying_in(text):
    """The SAYING whose text it is; BadText(text) where there is none."""
    saying = saying_or_none(text)
    if saying is None:
        raise BadText(text)
    return saying

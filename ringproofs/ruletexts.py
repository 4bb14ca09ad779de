"""The texts of ATOMs and RULEs."""

from ringproofs.errors import BadText
from ringproofs.rules import is_atom, is_rule
from ringproofs.termtexts import term_or_none, term_text


def atom_text(atom):
    """The text of an ATOM."""
    return " ".join([atom[0], *[term_text(term) for term in atom[1:]]])


def atom_or_none(text):
    """The ATOM whose text it is, else None."""
    name, *terms = text.split(" ")
    atom = (name, *[term_or_none(term) for term in terms])
    return atom if is_atom(atom) else None


def atom_in(text):
    """The ATOM whose text it is; BadText(text) where there is none."""
    atom = atom_or_none(text)
    if atom is None:
        raise BadText(text)
    return atom


def atoms_text(atoms):
    """The text of some ATOMs, parted by a comma and a blank."""
    return ", ".join([atom_text(atom) for atom in atoms])


def atoms_or_nones(text):
    """The tuple of the ATOMs whose text it is, None in the place of each that is none."""
    return tuple([atom_or_none(part) for part in text.split(", ")])


def rule_text(rule):
    """The text of a RULE."""
    head, body = rule
    if not body:
        return atom_text(head)
    return f"{atom_text(head)} if {atoms_text(body)}"


def rule_or_none(text):
    """The RULE whose text it is, else None."""
    head, parting, atoms = text.partition(" if ")
    body = atoms_or_nones(atoms) if parting else ()
    rule = (atom_or_none(head), body)
    return rule if is_rule(rule) else None


def rule_in(text):
    """The RULE whose text it is; BadText(text) where there is none."""
    rule = rule_or_none(text)
    if rule is None:
        raise BadText(text)
    return rule

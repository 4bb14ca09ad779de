"""The texts of Definitions."""

from ringproofs.definitions import Definitions
from ringproofs.errors import BadRow, BadText, Clash
from ringproofs.ruletexts import rule_in, rule_text


def definitions_text(defs):
    """The text of Definitions: a row for each rule."""
    return "\n".join([rule_text(rule) for rule in defs.all_rules()]) or "-"


def definitions_in(text):
    """The Definitions whose text it is; BadRow of the first row that is no rule's text or clashes."""
    defs = Definitions()
    if text == "-":
        return defs
    for k, row in enumerate(text.split("\n")):
        try:
            defs.tell(rule_in(row))
        except (BadText, Clash):
            raise BadRow(k) from None
    return defs

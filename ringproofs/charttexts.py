"""The texts of CHARTs."""

from ringproofs.errors import BadRow
from ringproofs.ruletexts import atom_or_none, atom_text
from ringproofs.sayingtexts import saying_or_none, saying_text
from ringproofs.steps import is_step
from ringproofs.termtexts import binding_or_none, binding_text

# Numbers have ten figures.  One of far more is refused: Python itself doesn't read it.
MOST_FIGURES = 100


def step_text(step):
    """The text of a STEP."""
    word, *parts = step
    if word in ("split", "use"):
        return f"{word} {parts[0]}"
    if word in ("back", "lean"):
        return f"{word} {parts[0]} {binding_text(parts[1])}"
    if word == "cut":
        return f"cut {atom_text(parts[0])}"
    if word == "as":
        return f"as {saying_text(parts[0])} ; {binding_text(parts[1])}"
    return word


def number_or_none(text):
    """The number whose plain figures these are, else None."""
    if not text.isdecimal() or len(text) > MOST_FIGURES:
        return None
    number = int(text)
    return number if str(number) == text else None


def _parts(word, text):
    """What stands behind a step's word, None for what isn't so written."""
    if word in ("split", "use"):
        return [number_or_none(text)]
    if word == "cut":
        return [atom_or_none(text)]
    if word == "as":
        saying, _, binding = text.partition(" ; ")
        return [saying_or_none(saying), binding_or_none(binding)]
    first, _, binding = text.partition(" ")
    return [number_or_none(first) if word == "back" else first, binding_or_none(binding)]


def step_or_none(text):
    """The STEP whose text it is, else None."""
    if text == "by":
        return ("by",)
    word, _, rest = text.partition(" ")
    step = (word, *_parts(word, rest))
    return step if is_step(step) else None


def chart_text(chart):
    """The text of a CHART: the saying's, then a row for each step."""
    saying, steps = chart
    return "\n".join([saying_text(saying), *[step_text(step) for step in steps]])


def chart_in(text):
    """The CHART whose text it is; BadRow of the first row that isn't so."""
    first, *rest = text.split("\n")
    rows = [saying_or_none(first), *[step_or_none(row) for row in rest]]
    for k, row in enumerate(rows):
        if row is None:
            raise BadRow(k)
    return (rows[0], tuple(rows[1:]))

"""How the rows of the desk are written."""

from ringproofs.charttexts import chart_in, number_or_none
from ringproofs.errors import BadRow
from ringproofs.rules import is_name
from ringproofs.ruletexts import rule_or_none
from ringproofs.sayingtexts import saying_or_none
from ringproofs.termtexts import binding_or_none

MOST_FIGURES = 4
# Up to which number each word takes one behind a SAYING.
MOST = {"world": 4, "seek": 6}


def _figures(text):
    """The number of at most four figures whose text it is, else None."""
    return number_or_none(text) if len(text) <= MOST_FIGURES else None


def _most(word, text):
    """The number behind a SAYING, from 1 to the greatest that the word takes; else None."""
    number = _figures(text)
    return number if number is not None and 1 <= number <= MOST[word] else None


def _chart(text):
    """The CHART whose rows stand so, parted by a stroke; else None."""
    try:
        return chart_in(text.replace(" / ", "\n"))
    except BadRow:
        return None


def _name(text):
    return text if is_name(text) else None


def _parts(word, text):
    """What stands behind a row's word, None for what isn't so written."""
    if word == "rule":
        return [rule_or_none(text)]
    if word == "unrule":
        return [_figures(text)]
    if word == "add":
        name, _, rest = text.partition(" ")
        return [_name(name), _chart(rest)]
    if word == "walk":
        name, _, rest = text.partition(" ")
        return [_name(name), binding_or_none(rest)]
    if word in MOST:
        saying, _, most = text.rpartition(" ")
        return [saying_or_none(saying), _most(word, most)]
    if word in ("drop", "stands", "short", "steps", "bare"):
        return [_name(text)]
    return [None]


def row_or_none(row):
    """The list of a row's word and what stands behind it, None where it isn't so written."""
    if "" in row.split(" "):
        return None
    if row in ("undo", "names"):
        return [row]
    word, _, rest = row.partition(" ")
    found = [word, *_parts(word, rest)]
    return None if None in found else found

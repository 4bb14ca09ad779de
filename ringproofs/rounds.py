"""Rounds: ways round and round a chart on which nothing falls for ever."""

from ringproofs.charts import is_right
from ringproofs.errors import NotLetBy
from ringproofs.leaps import by_key, leaps_by_backs, together
from ringproofs.papers import all_rings, never_falls
from ringproofs.terms import is_number


def _whole_way(backs, found):
    """The key of the way round by these lines of back, None where one isn't beneath where that ahead goes back to."""
    ends = {back: other for (_, back), (other, _) in found.items()}
    start = line = ends.get(backs[-1])
    links = None
    for back in backs:
        if (line, back) not in found:
            return None
        line, leap = found[(line, back)]
        links = leap if links is None else together(links, leap)
    return (start, line, tuple(links))


def shows_round(defs, chart, thing, *, known=()):
    """Whether a thing is a round of the chart; BadChart(line)."""
    found = leaps_by_backs(defs, chart, known)
    if not isinstance(thing, list) or not thing or not all([is_number(line) for line in thing]):
        return False
    key = _whole_way(thing, found)
    return key is not None and never_falls(key)


def _round_to(key, origins, backs):
    """The lines of back of the leaps of which a ring comes."""
    found = []
    while key is not None:
        key, leap = origins[key]
        found.append(backs[leap])
    return found[::-1]


def judged(defs, chart, *, known=()):
    """("falls", rings), or ("round", a round) where the chart isn't let by; BadChart(line)."""
    backs = {}
    for (line, back), (other, links) in leaps_by_backs(defs, chart, known).items():
        backs.setdefault((line, other, tuple(links)), back)
    origins = all_rings(list(backs))
    for key in origins:
        if never_falls(key):
            return ("round", _round_to(key, origins, backs))
    return ("falls", [by_key(key) for key in sorted(origins)])


def is_let_by(defs, chart, *, known=()):
    """Whether a thing is a right CHART of which all rings fall."""
    return is_right(defs, chart, known=known) and judged(defs, chart, known=known)[0] == "falls"


def has_to_be_let_by(defs, chart, known):
    """Refuses a CHART that isn't: BadChart(line), NotLetBy(round)."""
    word, shown = judged(defs, chart, known=known)
    if word == "round":
        raise NotLetBy(shown)

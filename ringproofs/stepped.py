"""CHARTs by steps: each line that some back goes to has one hyp that falls round and round."""

from ringproofs.charts import goals, lines
from ringproofs.leaps import hops_in, ways_upward
from ringproofs.premises import handed_on, kept
from ringproofs.terms import is_number


def _ways_round(told, hops):
    """By each line of goals the list of the links of all ways from it down to a line of back, and back to it; None
    where a line of back isn't beneath the line that it goes back to."""
    found = {}
    for back, (saying, step, _) in enumerate(told):
        if step[0] == "back":
            _, line, binding = step
            ways = dict(ways_upward(back, handed_on(saying, told[line][0], binding), hops))
            if line not in ways:
                return None
            found.setdefault(line, []).append(ways[line])
    return found


def _falls_round(place, ways):
    """Whether, on all these ways round, what is at this place comes to be there again, with a fall."""
    return all([(place, place, 1) in links for links in ways])


def _stays_round(place, ways):
    """Whether, on all these ways round, what is at this place comes to be there again."""
    return all([(place, place, 0) in links or (place, place, 1) in links for links in ways])


def _is_kept(line, place, told, hops, round_by):
    """Whether what is at a line's place is kept while the chart goes round the lines of goals beneath it."""
    for other, ways in round_by.items():
        down = dict(ways_upward(other, kept(told[other][0]), hops))
        if other != line and line in down:
            handed = [j for i, j, _ in down[line] if i == place]
            if not all([_stays_round(j, ways) for j in handed]):
                return False
    return True


def _places(defs, chart, known):
    """By each line of goals, rising, the list of its places that will do; None where the chart isn't by steps at all.

    What is asked of a line's place hangs on no other line's place.
    """
    told = lines(defs, chart, known=known)
    hops = hops_in(defs, told)
    round_by = _ways_round(told, hops)
    if round_by is None:
        return None
    return {line: [place for place in range(len(told[line][0][0]))
                   if _falls_round(place, round_by[line]) and _is_kept(line, place, told, hops, round_by)]
            for line in goals(chart)}


def _is_pair(thing):
    return isinstance(thing, tuple) and len(thing) == 2 and is_number(thing[0]) and is_number(thing[1])


def is_stepped(defs, chart, places, *, known=()):
    """Whether a right chart is by steps with a list of pairs (line, place); BadChart(line)."""
    found = _places(defs, chart, known)
    if found is None or not isinstance(places, list) or not all([_is_pair(pair) for pair in places]):
        return False
    return [line for line, _ in places] == list(found) and all([place in found[line] for line, place in places])


def stepped(defs, chart, *, known=()):
    """The first list of pairs (line, place) with which a right chart is by steps, or None; BadChart(line)."""
    found = _places(defs, chart, known)
    if found is None or not all([places for places in found.values()]):
        return None
    return [(line, places[0]) for line, places in found.items()]

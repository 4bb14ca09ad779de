"""Leaps: the ways from a line that some back goes to, down to a line of back, and on."""

from ringproofs.charts import goals, lines
from ringproofs.premises import greatest, handed_on, premises


def together(links, others):
    """The links of a way of two parts, told by theirs."""
    found = []
    for place, middle, falls in links:
        found.extend([(place, other, max(falls, more)) for start, other, more in others if start == middle])
    return greatest(found)


def hops_in(defs, told):
    """By each line but the first: the line above it, and the links from that one to it."""
    found = {}
    for above, (saying, step, places) in enumerate(told):
        for line, (_, links) in zip(places, premises(defs, saying, step)):
            found[line] = (above, links)
    return found


def ways_upward(line, links, hops):
    """A line and all above it, each with the links of the way from it down to this line, and on by these links."""
    found = [(line, links)]
    while line in hops:
        line, ahead = hops[line]
        links = together(ahead, links)
        found.append((line, links))
    return found


def leaps_by_backs(defs, chart, known):
    """By each (line of goals, line of back that is it, or beneath it): the line it goes back to, and the links."""
    told = lines(defs, chart, known=known)
    wanted = goals(chart)
    hops = hops_in(defs, told)
    found = {}
    for back, (saying, step, _) in enumerate(told):
        if step[0] == "back":
            _, other, binding = step
            links = handed_on(saying, told[other][0], binding)
            for line, way in ways_upward(back, links, hops):
                if line in wanted:
                    found[(line, back)] = (other, way)
    return found


def leap_key(leap):
    """A leap or ring by which it may be found in a dict."""
    line, other, links = leap
    return (line, other, tuple(links))


def by_key(key):
    """The leap or ring of this key, its list of links a new one."""
    line, other, links = key
    return (line, other, list(links))


def leaps(defs, chart, *, known=()):
    """The rising list of all leaps, as (line, other, links), each once; BadChart(line)."""
    found = leaps_by_backs(defs, chart, known)
    keys = sorted({(line, other, tuple(links)) for (line, _), (other, links) in found.items()})
    return [by_key(key) for key in keys]

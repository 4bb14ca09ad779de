"""Walks, by which a CHART that is let by tells how its goal is led."""

from ringproofs.charts import leaned
from ringproofs.errors import Leans, NoWorld
from ringproofs.heights import derivation
from ringproofs.rounds import has_to_be_let_by
from ringproofs.rules import atom_put
from ringproofs.walker import Walker


def walker_of(defs, chart):
    """The Walker of a CHART; Leans(NAME), BadChart(line), NotLetBy(round)."""
    names = leaned(chart)
    if names:
        raise Leans(names[0])
    has_to_be_let_by(defs, chart, ())
    return Walker(defs, chart)


def trail_in(defs, chart, world):
    """The trail of the walk in a WORLD of the chart's saying; Leans, BadChart, NotLetBy, NoWorld(ATOM)."""
    walker = walker_of(defs, chart)
    for hyp, high in zip(chart[0][0], walker.heights(0, world)):
        if high is None:
            raise NoWorld(atom_put(hyp, world))
    return walker.trail(world)


def walked(defs, chart, world):
    """(trail, list): the list one that is_derivation takes of the goal, so put; refused as trail_in."""
    trail = trail_in(defs, chart, world)
    return (trail, derivation(defs, atom_put(chart[0][1], world)))

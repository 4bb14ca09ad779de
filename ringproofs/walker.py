"""The walk through a CHART: from each line, in a world, on to the next ones."""

from ringproofs.charts import lines
from ringproofs.heights import Heights
from ringproofs.rules import atom_put
from ringproofs.sayings import saying_variables
from ringproofs.steps import fits
from ringproofs.termtexts import binding_text
from ringproofs.terms import put


def _led_by(binding, world):
    """The world of a line of which another one comes by the BINDING, told by that one's world."""
    return tuple([(variable, put(term, world)) for variable, term in binding])


def _opened(fitting, world):
    """The world with the new variables of a rule that fits so, put for what is in the TERMs that it opens."""
    found = dict(world)
    for variable, term in fitting[0]:
        found.update(dict(zip(term[1:], found[variable][1:])))
    return found


class Walker:
    """Walks through a right CHART that leans on nothing; a place on the walk is (line, world)."""

    def __init__(self, defs, chart):
        self._defs = defs
        self._lines = lines(defs, chart)
        self._heights = Heights(defs)
        self._rows = {}

    def heights(self, line, world):
        """The list of the heights of a line's hyps, so put."""
        return [self._heights.height_of(atom_put(hyp, world)) for hyp in self._lines[line][0][0]]

    def _within(self, line, found):
        """The world of a line, out of a dict that has all its variables."""
        return tuple([(variable, found[variable]) for variable in saying_variables(self._lines[line][0])])

    def _split(self, line, world):
        """The one premise of a split with which the walk goes on."""
        saying, (_, k), places = self._lines[line]
        hyp = saying[0][k]
        fitting = [fits(rule, hyp, saying) for rule in self._defs.rules(hyp[0])]
        chosen = self._heights.place_of(atom_put(hyp, world))
        ahead = [each for each in fitting[:chosen] if each is not None]
        premise = places[len(ahead)]
        return (premise, self._within(premise, _opened(fitting[chosen], world)))

    def nexts(self, line, world):
        """The list of the places that the walk goes on with behind a line, in order."""
        _, step, places = self._lines[line]
        if step[0] == "split":
            return [self._split(line, world)]
        if step[0] == "back":
            return [(step[1], _led_by(step[2], world))]
        if step[0] == "as":
            return [(places[0], _led_by(step[2], world))]
        return [(premise, self._within(premise, dict(world))) for premise in places]

    def trail(self, world):
        """The list of (line, heights) of all lines, as they're begun, from line 0 in this world on."""
        found = []
        todo = [(0, world)]
        while todo:
            line, now = todo.pop()
            found.append((line, self.heights(line, now)))
            todo.extend(self.nexts(line, now)[::-1])
        return found

    def many(self, world):
        """How many rows the trail has: each place is gone on from but once, also for other worlds asked about later."""
        start = (0, binding_text(world))
        todo = [(start, (0, world))]
        while todo:
            key, place = todo[-1]
            nexts = [((line, binding_text(now)), (line, now)) for line, now in self.nexts(*place)]
            wanting = [each for each in nexts if each[0] not in self._rows]
            if not wanting:
                self._rows[key] = 1 + sum([self._rows[name] for name, _ in nexts])
                todo.pop()
            todo.extend(wanting)
        return self._rows[start]

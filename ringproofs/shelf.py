"""A shelf of rules and CHARTs, kept over many calls."""

from ringproofs.charts import leaned
from ringproofs.definitions import Definitions
from ringproofs.errors import Known, Leans, Leant, TooMany, Unknown
from ringproofs.rounds import has_to_be_let_by, is_let_by
from ringproofs.words import SHELF


class Shelf:
    """Definitions, and CHARTs by names that may lean on one another.

    What it holds is never changed in place: each deed puts other Definitions or another list in, so that undo puts
    back what there was, and twins may share it.
    """

    def __init__(self, rules=(), *, most=SHELF):
        self._most = most
        self._defs = Definitions(rules)
        self._charts = []
        # What there was ahead of each deed that isn't taken back: (Definitions, list of (NAME, CHART)).
        self._past = []
        # Of do alone: what it logs, and whether one is at work.
        self.log_rows = []
        self.is_at_work = False

    def _turn_to(self, defs, charts):
        self._past.append((self._defs, self._charts))
        self._defs = defs
        self._charts = charts

    def tell(self, rule):
        """Takes a rule in; its place among all rules; Clash(word)."""
        defs = self._defs.twin()
        defs.tell(rule)
        self._turn_to(defs, self._charts)
        return len(defs.all_rules()) - 1

    def untell(self, place):
        """Leaves a rule out; NoRule(place)."""
        self._turn_to(self._defs.without(place), self._charts)

    def _sayings(self):
        """The list of (NAME, SAYING) of all charts that stand.

        A chart leans on such alone as were told ahead of it, and isn't right where one of them isn't known.
        """
        found = []
        for name, chart in self._charts:
            if is_let_by(self._defs, chart, known=found):
                found.append((name, chart[0]))
        return found

    def add(self, name, chart):
        """Puts a chart on the shelf; Known, TooMany, Leans, BadChart, NotLetBy."""
        if name in dict(self._charts):
            raise Known(name)
        if len(self._charts) >= self._most:
            raise TooMany(self._most)
        known = self._sayings()
        there = dict(known)
        for other in leaned(chart):
            if other not in there:
                raise Leans(other)
        has_to_be_let_by(self._defs, chart, known)
        self._turn_to(self._defs, [*self._charts, (name, chart)])

    def drop(self, name):
        """Takes a chart off the shelf; Unknown(name), Leant(NAME) of the first one that leans on it."""
        self.chart(name)
        for other in self.names():
            if name in self.leans(other):
                raise Leant(other)
        self._turn_to(self._defs, [pair for pair in self._charts if pair[0] != name])

    def undo(self):
        """Takes the last deed back that was done and isn't yet taken back; whether there was one."""
        if not self._past:
            return False
        self._defs, self._charts = self._past.pop()
        return True

    def names(self):
        """The rising list of all names."""
        return sorted([name for name, _ in self._charts])

    def standing(self):
        """The rising list of the names of all charts that stand."""
        return sorted([name for name, _ in self._sayings()])

    def chart(self, name):
        """The chart of this name; Unknown(name)."""
        found = dict(self._charts)
        if name not in found:
            raise Unknown(name)
        return found[name]

    def saying(self, name):
        """The saying of the chart of this name; Unknown(name)."""
        return self.chart(name)[0]

    def leans(self, name):
        """The rising list of the names on which the chart of this name leans; Unknown(name)."""
        return leaned(self.chart(name))

    def definitions(self):
        """The Definitions that are told by now, a twin of their own."""
        return self._defs.twin()

    def charts(self):
        """The list of all (NAME, CHART), as they were told."""
        return list(self._charts)

    def log(self):
        """The list of what each do logged: ("in", how many), the words of the deeds done, ("out", how many of them)."""
        return list(self.log_rows)

    def is_open(self):
        """Whether no do is at work."""
        return not self.is_at_work

    def twin(self):
        """A shelf of its own that holds the same, with what can be undone and the log."""
        other = Shelf(most=self._most)
        other._defs = self._defs
        other._charts = self._charts
        other._past = list(self._past)
        other.log_rows = list(self.log_rows)
        return other

    def __len__(self):
        return len(self._charts)

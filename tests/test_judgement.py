"""The document's point 1: (a) what is let by, and what not; (b) what is let by is barred in no world."""

import unittest
from random import Random

from helper import NUMBERS, Case
from plaincharts import Plain, drawn_chart, drawn_machine, drawn_saying
from plainly import drawn_definitions
from ringproofs.charttexts import chart_in
from ringproofs.deftexts import definitions_in
from ringproofs.papers import rings, shows_falls
from ringproofs.rounds import is_let_by, judged, shows_round
from ringproofs.sayings import saying_variables
from ringproofs.sayingtexts import saying_in
from ringproofs.worlds import first_world
from test_charts import EVEN_IS_NAT, LESS_THAN_NEXT, ODD_IS_NAT
from test_leaps import MACHINES
from test_rounds import NOT_LET_BY

FORKS = definitions_in("p 0\np s(x0) if p x0, p x0\nq 0 x0\nq s(x0) x1 if q x1 x0, q x0 x1\n"
                       "q f(x0,x1) x2 if q x0 x2, q x1 x2, p x0\np f(x0,x1) if p x1, q x0 x1")
ABOUT_NUMBERS = ["even x0 |- nat x0", "odd x0 |- nat x0", "nat x0 |- less x0 s(x0)", "less x0 x1 |- nat x0",
                 "nat x0, nat x1 |- nat x0", "even x0, odd x1 |- less x0 x1", "less x0 x1 |- less x0 s(x1)", "nat x0 |- even x0"]
ABOUT_FORKS = ["q x0 x1 |- q x0 x1", "p x0, p x1 |- q x0 x1", "q x0 x1 |- p x0", "p x0 |- p s(x0)", "p x0 |- p x0", "|- q 0 0",
               "q x0 x1, q x1 x0 |- p x1"]


def drawn_cases(many):
    """Definitions, and right charts by them, drawn: about numbers, about forks, and by drawn rules."""
    for seed in range(many):
        draw = Random(seed)
        defs, sayings = [(NUMBERS, ABOUT_NUMBERS), (FORKS, ABOUT_FORKS)][seed % 2]
        saying = saying_in(sayings[seed // 2 % len(sayings)])
        if seed % 4 == 3:
            defs = drawn_definitions(seed)
            saying = drawn_saying(draw, defs, [0, 1], 3, 2)
        chart = drawn_chart(draw, defs, saying, 15)
        if chart is not None:
            yield defs, chart


class Judgement(Case):
    def judge(self, defs, chart, laps):
        """That (a) is so of a right chart, held against the ways themselves; whether it's let by."""
        plain = Plain(defs, chart)
        word, shown = judged(defs, chart)
        let_by = word == "falls"
        self.told(is_let_by(defs, chart), let_by)
        self.told(shows_falls(defs, chart, rings(defs, chart)), let_by)
        if let_by:
            self.told(shows_falls(defs, chart, shown), True)
            for backs in plain.rounds(laps):
                self.assertTrue(plain.falls_for_ever(backs))
                self.told(shows_round(defs, chart, backs), False)
        else:
            self.told(shows_round(defs, chart, shown), True)
            self.assertFalse(plain.falls_for_ever(shown))
        return let_by

    def holds_in(self, defs, saying):
        self.told(first_world(defs, saying, 5 if len(saying_variables(saying)) < 2 else 4), None)

    def test_ordinary(self):
        for chart in [EVEN_IS_NAT, ODD_IS_NAT, LESS_THAN_NEXT]:
            self.told(self.judge(NUMBERS, chart, 4), True)
            self.holds_in(NUMBERS, chart[0])
        for chart in NOT_LET_BY:
            self.told(self.judge(NUMBERS, chart, 4), False)

    def test_what_does_not_hold_is_not_let_by(self):
        # All rules are used as they should be, but round 1 nothing falls.
        chart = chart_in("nat x0 |- odd x0\ncut odd x0\nback 0 x0=x0\nby")
        self.assertIsNotNone(first_world(NUMBERS, chart[0], 3))
        self.told(self.judge(NUMBERS, chart, 4), False)

    def test_machines(self):
        let_by = 0
        for seed in range(400):
            draw = Random(seed)
            many = draw.choice([1, 2, 3])
            chart = drawn_machine(draw, draw.choice([1, 2, 3, 3]), many, draw.choice([1, 2, 3, 4]))
            let_by += self.judge(MACHINES, chart, 5 if many < 3 else 4)
        self.assertTrue(100 < let_by < 300)

    def drawn(self, defs, saying, seed):
        chart = drawn_chart(Random(seed), defs, saying, 15)
        if chart is None:
            return 0, 0
        let_by = self.judge(defs, chart, 3)
        if let_by:
            self.holds_in(defs, saying)
        return let_by, let_by and len(rings(defs, chart)) > 0

    def test_drawn_charts(self):
        let_by = by_rings = 0
        for seed in range(900):
            defs, sayings = [(NUMBERS, ABOUT_NUMBERS), (FORKS, ABOUT_FORKS)][seed % 2]
            found = self.drawn(defs, saying_in(sayings[seed // 2 % len(sayings)]), seed)
            let_by += found[0]
            by_rings += found[1]
        self.assertGreater(let_by, 100)
        self.assertGreater(by_rings, 30)

    def test_charts_by_drawn_rules(self):
        let_by = 0
        for seed in range(600):
            defs = drawn_definitions(seed)
            let_by += self.drawn(defs, drawn_saying(Random(seed), defs, [0, 1], 3, 2), seed)[0]
        self.assertGreater(let_by, 50)


if __name__ == "__main__":
    unittest.main()

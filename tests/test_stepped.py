import unittest
from copy import deepcopy
from random import Random

from helper import NUMBERS, Case, odd_things
from plaincharts import Plain, drawn_machine, machine
from plainwalks import plain_all_places, plain_is_stepped
from ringproofs.charttexts import chart_in
from ringproofs.errors import BadChart
from ringproofs.rounds import is_let_by
from ringproofs.stepped import is_stepped, stepped
from test_charts import EVEN_IS_NAT, LESS_THAN_NEXT, ODD_IS_NAT, PAIR
from test_judgement import drawn_cases
from test_leaps import FOUR_GOALS, MACHINES
from test_papers import KNOWN, LEANING, ONLY_TOGETHER, WRONG
from test_rounds import NOT_LET_BY, TWICE

TWO_HYPS = "x0=x0 x1=x1 x2=x2"
# Round line 3 the second hyp falls, and the first one stays, by which it falls round line 0.
WITHIN = chart_in("\n".join(["n x1, n x2 |- go x0", "use 1", "split 0", "back 0 " + TWO_HYPS, "split 1", "use 1", "back 3 " + TWO_HYPS,
                             "split 0", "back 0 " + TWO_HYPS]))
# Three, one within the other: each has a hyp of its own.
HYPS = "x0=x0 x1=x1 x2=x2 x3=x3"
THREE = chart_in("\n".join(["n x1, n x2, n x3 |- go x0", "use 1", "split 2", "back 0 " + HYPS, "use 1", "split 0", "back 3 " + HYPS,
                            "use 1", "split 1", "back 6 " + HYPS, "split 0", "back 3 " + HYPS]))


class IsStepped(Case):
    def so(self, places, wanted, chart=EVEN_IS_NAT, defs=NUMBERS, **named):
        with self.subTest(repr(places)[:80]):
            self.told(is_stepped(defs, chart, places, **named), wanted)

    def test_one_ring(self):
        for chart in [EVEN_IS_NAT, ODD_IS_NAT, LESS_THAN_NEXT]:
            self.so([(0, 0)], True, chart)
            for places in [[], [(0, 1)], [(1, 0)], [(0, 0), (0, 0)], [(0, 0), (1, 0)], [(0, -1)]]:
                self.so(places, False, chart)

    def test_the_hyp_that_falls(self):
        chart = machine(3, [([1], 0, [0, 1, 2])])
        for place in range(-1, 5):
            self.so([(0, place)], place == 1, chart, MACHINES)
        chart = machine(3, [([0, 2], 0, [0, 1, 2])])
        for place in range(-1, 5):
            self.so([(0, place)], place in (0, 2), chart, MACHINES)

    def test_of_all_ways_round_the_same(self):
        chart = machine(2, [([0], 0, [0, 1]), ([0, 1], 0, [0, 1])])
        self.so([(0, 0)], True, chart, MACHINES)
        self.so([(0, 1)], False, chart, MACHINES)
        chart = machine(2, [([0], 0, [0, 1]), ([1], 0, [0, 1])])
        self.told(is_let_by(MACHINES, chart), True)
        self.so([(0, 0)], False, chart, MACHINES)
        self.so([(0, 1)], False, chart, MACHINES)

    def test_one_within_the_other(self):
        for first in range(3):
            for second in range(3):
                self.so([(0, first), (3, second)], (first, second) == (0, 1), WITHIN, MACHINES)
        self.so([(3, 1), (0, 0)], False, WITHIN, MACHINES)
        self.so([(0, 0)], False, WITHIN, MACHINES)
        self.so([(3, 1)], False, WITHIN, MACHINES)

    def test_what_the_outer_one_falls_by_is_kept_within(self):
        for back, wanted in [("x0=x0 x1=x1 x2=x2", True), ("x0=x0 x1=x2 x2=x2", False), ("x0=x0 x1=x2 x2=x1", False)]:
            # The inner round, at line 2, may lose the outer one's hyp.
            chart = chart_in("\n".join(["n x1, n x2 |- go x0", "split 0", "use 1", "split 1", "back 2 " + back, "back 0 " + TWO_HYPS]))
            self.told(stepped(MACHINES, chart), [(0, 0), (2, 1)] if wanted else None)
            self.so([(0, 0), (2, 1)], wanted, chart, MACHINES)

    def test_three(self):
        self.so([(0, 2), (3, 0), (6, 1)], True, THREE, MACHINES)
        for places in [[(0, 0), (3, 0), (6, 1)], [(0, 2), (3, 2), (6, 1)], [(0, 2), (3, 0), (6, 0)], [(0, 2), (3, 0)],
                       [(0, 2), (3, 0), (6, 1), (6, 1)], [(0, 2), (3, 0), (7, 1)]]:
            self.so(places, False, THREE, MACHINES)

    def test_no_goals(self):
        for chart in [chart_in("nat x0 |- nat x0\nby"), chart_in("|- nat 0\nuse 0")]:
            self.so([], True, chart)
            self.so([(0, 0)], False, chart)
            self.so((), False, chart)

    def test_not_beneath(self):
        chart = chart_in("n x1 |- p x0\nuse 0\nsplit 0\nback 3 x0=x0 x1=x1\nback 1 x0=x0 x1=x1")
        self.told(is_let_by(PAIR, chart), True)
        for places in plain_all_places(Plain(PAIR, chart)):
            self.so(places, False, chart, PAIR)

    def test_kinds(self):
        for thing in [((0, 0),), [[0, 0]], [(False, 0)], [(0, False)], [(0, 0, 0)], [(0,)], [((0, 0),)], [0, 0], (0, 0), None, True,
                      "stepped", [None], [(None, 0)], [(0, "0")], ["00"], [(0, (0,))]]:
            self.so(thing, False)
        self.so([(True, 0)], False, chart_in("nat x0 |- less x0 s(x0)\nas nat x0 |- less x0 s(x0) ; x0=x0\nsplit 0\nuse 0\nuse 1\n"
                                             "back 1 x0=x1"))
        self.so([(1, 0)], True, chart_in("nat x0 |- less x0 s(x0)\nas nat x0 |- less x0 s(x0) ; x0=x0\nsplit 0\nuse 0\nuse 1\n"
                                         "back 1 x0=x1"))

    def test_odd_things(self):
        for thing in odd_things():
            self.so(thing, False)
            self.so([thing], False)
            self.so([(0, thing)], False)
            self.so([(thing, 0)], False)
            self.so([(0, 0), thing], False)

    def test_refused_whatever_the_places(self):
        for chart, line in WRONG:
            for places in [[], None, [(0, 0)], "places"]:
                self.refused(BadChart, line, is_stepped, NUMBERS, chart, places)
        self.refused(BadChart, 1, is_stepped, PAIR, LEANING, [(0, 0)])

    def test_the_places_are_not_changed(self):
        places = [(0, 0), (3, 1)]
        for _ in range(2):
            self.told(is_stepped(MACHINES, WITHIN, places), True)
        self.told(places, [(0, 0), (3, 1)])

    def test_by_name(self):
        self.told(is_stepped(places=[(0, 0)], chart=EVEN_IS_NAT, defs=NUMBERS), True)
        chart = chart_in("n x1 |- p x0\nuse 0\nlean abc x0=x0\nsplit 0\nback 0 x0=x0 x1=x1")
        self.told(is_stepped(known=KNOWN, places=[(0, 0)], chart=chart, defs=PAIR), True)
        self.refused(BadChart, 1, is_stepped, places=[(0, 0)], chart=chart, defs=PAIR)
        self.assertRaises(TypeError, is_stepped, PAIR, chart, [(0, 0)], KNOWN)


class Stepped(Case):
    def test_ordinary(self):
        for chart in [EVEN_IS_NAT, ODD_IS_NAT, LESS_THAN_NEXT]:
            self.told(stepped(NUMBERS, chart), [(0, 0)])
        self.told(stepped(MACHINES, WITHIN), [(0, 0), (3, 1)])
        self.told(stepped(MACHINES, THREE), [(0, 2), (3, 0), (6, 1)])

    def test_the_first_list(self):
        self.told(stepped(MACHINES, machine(3, [([2, 1], 0, [0, 1, 2])])), [(0, 1)])
        self.told(stepped(MACHINES, machine(3, [([0, 2, 1], 0, [0, 1, 2]), ([2], 0, [0, 1, 2])])), [(0, 2)])

    def test_no_goals(self):
        self.told(stepped(NUMBERS, chart_in("nat x0 |- nat x0\nby")), [])
        self.told(stepped(NUMBERS, chart_in("|- nat s(0)\nuse 1\nuse 0")), [])

    def test_let_by_and_not_by_steps(self):
        for chart in [FOUR_GOALS, machine(2, [([0], 0, [1, 0])]), machine(2, [([0], 0, [0, 1]), ([1], 0, [0, 1])])]:
            self.told(is_let_by(MACHINES, chart), True)
            self.told(stepped(MACHINES, chart), None)

    def test_not_let_by(self):
        for chart in NOT_LET_BY:
            self.told(stepped(NUMBERS, chart), None)
        self.told(stepped(MACHINES, TWICE), None)
        self.told(stepped(MACHINES, ONLY_TOGETHER), None)

    def test_leans(self):
        self.told(stepped(PAIR, LEANING, known=KNOWN), None)
        chart = chart_in("n x1 |- p x0\nuse 0\nlean abc x0=x0\nsplit 0\nback 0 x0=x0 x1=x1")
        self.told(stepped(PAIR, chart, known=KNOWN), [(0, 0)])
        self.told(stepped(PAIR, chart, known=tuple(KNOWN)), [(0, 0)])
        self.refused(BadChart, 1, stepped, PAIR, chart)

    def judge(self, defs, chart):
        """That it's by steps just as worded, and then let by; which list it's by, if any."""
        plain = Plain(defs, chart)
        wanted = [places for places in plain_all_places(plain) if plain_is_stepped(plain, places)]
        for places in plain_all_places(plain):
            self.told(is_stepped(defs, chart, places), places in wanted)
        self.told(stepped(defs, chart), wanted[0] if wanted else None)
        if wanted:
            self.told(is_let_by(defs, chart), True)
        return bool(wanted and wanted[0])

    def test_machines(self):
        found = 0
        for seed in range(500):
            draw = Random(seed)
            found += self.judge(MACHINES, drawn_machine(draw, draw.choice([1, 2, 3]), draw.choice([1, 2, 3]), draw.choice([1, 2, 3])))
        self.assertGreater(found, 30)

    def test_three_within_drawn(self):
        # The three rounds of THREE, each handing its hyps on at random.
        found = 0
        for seed in range(200):
            draw = Random(seed)
            steps = list(THREE[1])
            for line, step in enumerate(steps):
                if step[0] == "back" and draw.random() < 0.5:
                    steps[line] = ("back", step[1], ((0, 0), *[(k, draw.choice([k, k, 1, 2, 3])) for k in (1, 2, 3)]))
                if step[0] == "split" and draw.random() < 0.3:
                    steps[line] = ("split", draw.randrange(3))
            found += self.judge(MACHINES, (THREE[0], tuple(steps)))
        self.assertGreater(found, 5)

    def test_drawn_charts(self):
        found = 0
        for defs, chart in drawn_cases(400):
            found += self.judge(defs, chart)
        self.assertGreater(found, 10)

    def test_refused(self):
        for chart, line in WRONG:
            self.refused(BadChart, line, stepped, NUMBERS, chart)

    def test_own_lists_and_nothing_is_changed(self):
        kept = deepcopy(THREE)
        self.asked_twice(stepped, MACHINES, THREE)
        self.asked_twice(stepped, NUMBERS, chart_in("|- nat 0\nuse 0"))
        self.told(THREE, kept)

    def test_by_name(self):
        self.told(stepped(chart=EVEN_IS_NAT, defs=NUMBERS), [(0, 0)])
        self.assertRaises(TypeError, stepped, PAIR, LEANING, KNOWN)


if __name__ == "__main__":
    unittest.main()

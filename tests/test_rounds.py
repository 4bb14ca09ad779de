import unittest
from copy import deepcopy
from itertools import product
from random import Random

from helper import NUMBERS, Case, odd_things
from plaincharts import Plain, drawn_machine, machine, plain_is_round
from ringproofs.charts import goals
from ringproofs.charttexts import chart_in, chart_text
from ringproofs.errors import BadChart
from ringproofs.papers import rings, shows_falls
from ringproofs.rounds import is_let_by, judged, shows_round
from ringproofs.sayingtexts import saying_in
from test_charts import EVEN_IS_NAT, LESS_THAN_NEXT, ODD_IS_NAT, PAIR
from test_leaps import FOUR_GOALS, MACHINES
from test_papers import KNOWN, LEANING, ONLY_TOGETHER, WRONG, great_machines

# The two hyps are exchanged each time: what it hands on is the same only if it goes round twice.
TWICE = machine(2, [([], 0, [1, 0])])
NOT_LET_BY = [chart_in(text) for text in ["nat x0 |- even x0\nback 0 x0=x0", "|- even 0\nback 0 -",
                                          "nat x0 |- odd x0\ncut odd x0\nback 0 x0=x0\nby",
                                          "even x0 |- nat x0\nsplit 0\nuse 0\nuse 1\nback 3 x1=x1",
                                          "nat x0 |- less x0 s(x0)\ncut nat x0\nback 1 x0=x0\nback 0 x0=x0"]]


class ShowsRound(Case):
    def so(self, thing, wanted, chart, defs=NUMBERS):
        with self.subTest(repr(thing)[:80]):
            self.told(shows_round(defs, chart, thing), wanted)

    def test_of_one_line(self):
        self.so([0], True, NOT_LET_BY[0])
        self.so([0], True, NOT_LET_BY[1])
        self.so([1], True, NOT_LET_BY[2])
        self.so([3], True, NOT_LET_BY[3])
        self.so([1], True, NOT_LET_BY[4])

    def test_of_several(self):
        chart = chart_in("p x0 |- p x0\nuse 0\nback 2 x0=x0\nback 1 x0=x0")
        self.so([1, 2], True, chart, PAIR)
        self.so([2, 1], True, chart, PAIR)
        self.so([1], False, chart, PAIR)
        self.so([2], False, chart, PAIR)
        self.so([1, 1], False, chart, PAIR)
        self.so([1, 2, 1], False, chart, PAIR)
        self.so([1, 2, 1, 2], True, chart, PAIR)

    def test_only_together(self):
        for thing, wanted in [([2], False), ([4], False), ([2, 4], True), ([4, 2], True), ([2, 2], False), ([2, 2, 4], True),
                              ([2, 4, 4], True), ([2, 4, 2, 4], True), ([0], False), ([1, 2], False), ([2, 4, 3], False),
                              ([4, 4, 4], False), ([4, 2, 2, 4], True), ([2, 4, 2], True), ([2, 2, 2, 2], False)]:
            self.assertEqual(plain_is_round(Plain(MACHINES, ONLY_TOGETHER), thing), wanted)
            self.so(thing, wanted, ONLY_TOGETHER, MACHINES)

    def test_that_goes_twice_about(self):
        self.so([1], False, TWICE, MACHINES)
        self.so([1, 1], True, TWICE, MACHINES)
        self.so([1, 1, 1], False, TWICE, MACHINES)
        self.so([1, 1, 1, 1], True, TWICE, MACHINES)

    def test_that_falls(self):
        for chart in [EVEN_IS_NAT, ODD_IS_NAT, LESS_THAN_NEXT]:
            for line in range(8):
                self.so([line], False, chart)
                self.so([line, line], False, chart)

    def test_beneath_the_line_that_the_one_ahead_goes_back_to(self):
        # 0 use, 1 use, 2 and 3 go back to 1 and 0, 4 goes back to 1.
        chart = chart_in("p x0 |- p x0\nuse 0\nuse 0\nback 1 x0=x0\nback 0 x0=x0\nback 1 x0=x0")
        for thing, wanted in [([2], True), ([3], True), ([4], False), ([2, 3], True), ([3, 2], True), ([3, 4], True),
                              ([4, 3], True), ([3, 4, 2, 3], True), ([4, 2, 3], True), ([2, 3, 4], True), ([3, 3, 4], True),
                              ([4, 3, 3], True), ([2, 2], True), ([4, 4], False), ([4, 2], False), ([2, 4], False),
                              ([3, 4, 4], False), ([4, 3, 2], False), ([3, 2, 4], False), ([2, 2, 4, 3], False)]:
            self.assertEqual(plain_is_round(Plain(PAIR, chart), thing), wanted, thing)
            self.so(thing, wanted, chart, PAIR)

    def test_no_lines_of_back(self):
        for thing in [[], [5], [-1], [-6], [99], [10 ** 9], [0, 0], [-10 ** 9]]:
            self.so(thing, False, NOT_LET_BY[2])
        self.so([0], False, NOT_LET_BY[2])
        self.so([2], False, NOT_LET_BY[2])
        self.so([1, 2], False, NOT_LET_BY[2])
        self.so([2, 1], False, NOT_LET_BY[2])

    def test_kinds(self):
        for thing in [(0,), [False], [None], ["0"], [[0]], [(0,)], "0", 0, None, True, [0, None], [0, True], [0, [0]], (), {}]:
            self.so(thing, False, NOT_LET_BY[0])
        for thing in [[True], [True, True], [1, True], [True, 1], (1,), [(1,)]]:
            self.so(thing, False, NOT_LET_BY[2])

    def test_odd_things(self):
        for thing in odd_things():
            self.so(thing, False, NOT_LET_BY[0])
            self.so([thing], False, NOT_LET_BY[0])
            self.so([0, thing], False, NOT_LET_BY[0])
            self.so([thing, 0], False, NOT_LET_BY[0])

    def test_as_worded(self):
        told = 0
        for seed in range(200):
            draw = Random(seed)
            chart = drawn_machine(draw, draw.choice([1, 2, 3]), draw.choice([1, 2, 3]), 3)
            plain = Plain(MACHINES, chart)
            for many in range(1, 4):
                for thing in product([*plain.ends, 0], repeat=many):
                    wanted = plain_is_round(plain, list(thing))
                    told += wanted
                    self.told(shows_round(MACHINES, chart, list(thing)), wanted)
        self.assertGreater(told, 300)

    def test_refused_whatever_the_thing(self):
        for chart, line in WRONG:
            for thing in [[], None, [0], "round"]:
                self.refused(BadChart, line, shows_round, NUMBERS, chart, thing)

    def test_the_thing_is_not_changed(self):
        thing = [2, 4]
        shows_round(MACHINES, ONLY_TOGETHER, thing)
        self.told(thing, [2, 4])

    def test_by_name(self):
        self.told(shows_round(thing=[0], chart=NOT_LET_BY[0], defs=NUMBERS), True)
        self.told(shows_round(known=KNOWN, thing=[2], chart=LEANING, defs=PAIR), True)
        self.refused(BadChart, 1, shows_round, thing=[2], chart=LEANING, defs=PAIR)
        self.assertRaises(TypeError, shows_round, PAIR, LEANING, [2], KNOWN)


class Judged(Case):
    def one_of_both(self, defs, chart, falls, **named):
        told = judged(defs, chart, **named)
        self.assertIs(type(told), tuple)
        self.assertEqual(len(told), 2)
        if falls:
            self.told(told, ("falls", rings(defs, chart, **named)))
        else:
            self.assertEqual(told[0], "round")
            self.told(shows_round(defs, chart, told[1], **named), True)
        self.told(shows_falls(defs, chart, rings(defs, chart, **named), **named), falls)
        self.told(is_let_by(defs, chart, **named), falls)

    def test_let_by(self):
        for chart in [EVEN_IS_NAT, ODD_IS_NAT, LESS_THAN_NEXT, chart_in("nat x0 |- nat x0\nby"), chart_in("|- nat 0\nuse 0"),
                      chart_in("less x0 x1 |- nat x0\nsplit 0\nuse 0\nuse 1\nback 0 x0=x2 x1=x3"),
                      chart_in("less x0 x1 |- less x0 s(x1)\nsplit 0\nuse 0\nuse 1\nback 0 x0=x2 x1=x3"),
                      chart_in("none x0 |- odd x0\nsplit 0")]:
            self.one_of_both(NUMBERS, chart, True)

    def test_hyps_that_fall_by_turns(self):
        self.one_of_both(MACHINES, machine(2, [([0], 0, [1, 0])]), True)
        self.one_of_both(MACHINES, machine(2, [([0], 0, [0, 1]), ([1], 0, [0, 1])]), True)
        self.one_of_both(MACHINES, machine(2, [([0], 0, [0, 1]), ([1], 0, [1, 1])]), True)
        self.one_of_both(MACHINES, machine(2, [([0], 0, [1, 0]), ([1], 0, [1, 0])]), True)

    def test_not_let_by(self):
        for chart in NOT_LET_BY:
            self.one_of_both(NUMBERS, chart, False)
        self.one_of_both(MACHINES, TWICE, False)
        self.one_of_both(MACHINES, ONLY_TOGETHER, False)

    def test_a_hyp_that_falls_but_is_dropped(self):
        self.one_of_both(MACHINES, machine(2, [([0], 0, [1, 1])]), False)
        self.one_of_both(MACHINES, machine(2, [([1], 0, [1, 1])]), True)
        self.one_of_both(MACHINES, machine(1, [([], 0, [0])]), False)
        self.one_of_both(MACHINES, machine(1, [([0], 0, [0])]), True)

    def test_what_is_not_gone_round(self):
        # Nothing falls on the way to line 2, from which there's no way on for ever.
        self.one_of_both(PAIR, chart_in("p x0 |- p x0\nuse 0\nby\nback 1 x0=x0"), True)
        self.one_of_both(PAIR, chart_in("p x0 |- p x0\nuse 0\nback 2 x0=x0\nby"), True)
        self.one_of_both(PAIR, chart_in("p x0 |- p x0\nuse 0\nback 2 x0=x0\nback 2 x0=x0"), False)

    def test_leans(self):
        self.one_of_both(PAIR, LEANING, False, known=KNOWN)
        self.one_of_both(PAIR, LEANING, False, known=tuple(KNOWN))
        chart = chart_in("n x1 |- p x0\nuse 0\nlean abc x0=x0\nsplit 0\nback 0 x0=x0 x1=x1")
        self.one_of_both(PAIR, chart, True, known=KNOWN)

    def test_great(self):
        for chart, _, let_by in great_machines():
            self.one_of_both(MACHINES, chart, let_by)

    def test_four_goals_of_three_hyps(self):
        text = chart_text(FOUR_GOALS)
        self.one_of_both(MACHINES, FOUR_GOALS, True)
        # Without its fall the last branch goes round and round at line 5.
        chart = chart_in(text.replace("split 0\nback 5", "back 5"))
        self.told(goals(chart), [0, 1, 3, 5])
        self.one_of_both(MACHINES, chart, False)
        self.told(shows_round(MACHINES, chart, [8]), True)

    def test_thirty_lines(self):
        text = "n x1, n x2 |- p x0\n" + "split 0\nsplit 1\n" * 14 + "split 0\nback 0 x0=x0 x1=x2 x2=x1"
        self.assertEqual(len(chart_in(text)[1]), 30)
        self.one_of_both(PAIR, chart_in(text), True)
        text = "n x1, n x2 |- p x0\n" + "split 0\n" * 29 + "back 0 x0=x0 x1=x2 x2=x2"
        self.one_of_both(PAIR, chart_in(text), False)

    def test_refused(self):
        for chart, line in WRONG:
            self.refused(BadChart, line, judged, NUMBERS, chart)
        self.refused(BadChart, 1, judged, PAIR, LEANING)

    def test_own_lists_and_the_same_again(self):
        for chart in [TWICE, ONLY_TOGETHER, machine(2, [([0], 0, [1, 0])])]:
            first = judged(MACHINES, chart)
            kept = deepcopy(first)
            first[1].append("more")
            first[1].reverse()
            second = judged(MACHINES, chart)
            self.told(second, kept)
            self.assertIsNot(first[1], second[1])

    def test_by_name(self):
        self.told(judged(chart=EVEN_IS_NAT, defs=NUMBERS), ("falls", [(0, 0, [(0, 0, 1)])]))
        self.told(judged(known=KNOWN, chart=LEANING, defs=PAIR), ("round", [2]))
        self.assertRaises(TypeError, judged, PAIR, LEANING, KNOWN)


class IsLetBy(Case):
    def test_a_chart_that_is_not_right(self):
        for chart, _ in WRONG:
            self.told(is_let_by(NUMBERS, chart), False)
        self.told(is_let_by(PAIR, LEANING), False)

    def test_odd_things(self):
        for thing in odd_things():
            self.told(is_let_by(NUMBERS, thing), False)
            self.told(is_let_by(NUMBERS, (saying_in("|- nat 0"), thing)), False)

    def test_kinds(self):
        saying, steps = EVEN_IS_NAT
        self.told(is_let_by(NUMBERS, EVEN_IS_NAT), True)
        for thing in [[saying, steps], (saying, list(steps)), (saying, (*steps[:-1], ("back", False, ((0, 2),)))), None]:
            self.told(is_let_by(NUMBERS, thing), False)

    def test_by_name(self):
        self.told(is_let_by(chart=EVEN_IS_NAT, defs=NUMBERS), True)
        chart = chart_in("n x1 |- p x0\nuse 0\nlean abc x0=x0\nsplit 0\nback 0 x0=x0 x1=x1")
        self.told(is_let_by(known=KNOWN, chart=chart, defs=PAIR), True)
        self.told(is_let_by(chart=chart, defs=PAIR), False)
        self.assertRaises(TypeError, is_let_by, PAIR, chart, KNOWN)


if __name__ == "__main__":
    unittest.main()

import unittest
from copy import deepcopy
from random import Random

from helper import NUMBERS, Case, odd_things
from plaincharts import Plain, drawn_machine, machine, plain_is_paper, plain_together
from ringproofs.charttexts import chart_in
from ringproofs.errors import BadChart
from ringproofs.leaps import leaps, together
from ringproofs.papers import rings, shows_falls
from ringproofs.sayingtexts import saying_in
from test_charts import EVEN_IS_NAT, LESS_THAN_NEXT, ODD_IS_NAT, PAIR
from test_leaps import MACHINES

# Each of its two ways round falls, but both, one behind the other, don't.
ONLY_TOGETHER = machine(3, [([0], 0, [0, 2, 2]), ([1], 0, [2, 1, 2])])
WRONG = [(chart_in(text), line) for text, line in [("|- nat 0", 0), ("|- nat 0\nby", 0), ("|- nat 0\nuse 0\nuse 0", 1),
                                                   ("|- nat 0\nback 1 -", 0), ("|- nat 0\nlean abc -", 0),
                                                   ("nat x0 |- nat x0\nback 0 -", 0)]]
LEANING = chart_in("p x0 |- p x0\nuse 0\nlean abc x0=x0\nback 0 x0=x0")
KNOWN = [("abc", saying_in("|- p x0"))]
# (seed, how many lines are drawn to go back to, how many rings, whether it's let by)
GREAT = [(517, 3, 194, True), (5833, 4, 198, True), (884, 4, 193, False)]


def great_machines():
    """Charts of nearly 200 rings, let by and not."""
    return [(drawn_machine(Random(seed), 3, 3, targets), many, let_by)
            for seed, targets, many, let_by in GREAT]


class Rings(Case):
    def test_ordinary(self):
        for chart in [EVEN_IS_NAT, ODD_IS_NAT, LESS_THAN_NEXT]:
            self.told(rings(NUMBERS, chart), [(0, 0, [(0, 0, 1)])])

    def test_none(self):
        self.told(rings(NUMBERS, chart_in("nat x0 |- nat x0\nby")), [])
        self.told(rings(PAIR, chart_in("p x0 |- p x0\nuse 0\nby\nback 1 x0=x0")), [])

    def test_together(self):
        first, second = [(0, 0, 1), (2, 1, 0), (2, 2, 0)], [(1, 1, 1), (2, 0, 0), (2, 2, 0)]
        self.told(leaps(MACHINES, ONLY_TOGETHER), [(0, 0, first), (0, 0, second)])
        self.told(rings(MACHINES, ONLY_TOGETHER), [(0, 0, first), (0, 0, second), (0, 0, [(2, 0, 0), (2, 1, 1), (2, 2, 0)]),
                                                   (0, 0, [(2, 0, 1), (2, 1, 0), (2, 2, 0)])])

    def test_exchanged_and_back(self):
        chart = machine(2, [([0], 0, [1, 0])])
        self.told(rings(MACHINES, chart), [(0, 0, [(0, 0, 1), (1, 1, 1)]), (0, 0, [(0, 1, 1), (1, 0, 0)]),
                                           (0, 0, [(0, 1, 1), (1, 0, 1)])])

    def test_of_several_goals(self):
        text = "n x1 |- p x0\nuse 0\nsplit 0\nback 3 x0=x0 x1=x1\nback 1 x0=x0 x1=x1"
        self.told(rings(PAIR, chart_in(text)), [(1, 1, [(0, 0, 1)]), (1, 3, [(0, 0, 1)]), (3, 1, [(0, 0, 0)]),
                                                (3, 1, [(0, 0, 1)]), (3, 3, [(0, 0, 1)])])

    def test_leans(self):
        self.told(rings(PAIR, LEANING, known=KNOWN), [(0, 0, [(0, 0, 0)])])
        self.told(rings(PAIR, LEANING, known=tuple(KNOWN)), [(0, 0, [(0, 0, 0)])])

    def test_as_worded(self):
        for seed in range(200):
            draw = Random(seed)
            chart = drawn_machine(draw, draw.choice([1, 2, 3]), draw.choice([1, 2, 3]), 3)
            told = rings(MACHINES, chart)
            if len(told) <= 60:
                found = leaps(MACHINES, chart)
                more = True
                while more:
                    more = [(one[0], two[1], plain_together(one[2], two[2])) for one in found for two in found if one[1] == two[0]]
                    more = [ring for k, ring in enumerate(more) if ring not in found and ring not in more[:k]]
                    found.extend(more)
                self.told(told, sorted(found))

    def test_refused(self):
        for chart, line in WRONG:
            self.refused(BadChart, line, rings, NUMBERS, chart)
        self.refused(BadChart, 1, rings, PAIR, LEANING)

    def test_own_lists(self):
        self.asked_twice(rings, MACHINES, ONLY_TOGETHER)
        self.asked_twice(rings, NUMBERS, chart_in("nat x0 |- nat x0\nby"))
        self.asked_twice(rings, PAIR, LEANING, known=KNOWN)

    def test_by_name(self):
        self.told(rings(known=KNOWN, chart=LEANING, defs=PAIR), [(0, 0, [(0, 0, 0)])])
        self.refused(BadChart, 1, rings, chart=LEANING, defs=PAIR)
        self.assertRaises(TypeError, rings, PAIR, LEANING, KNOWN)


class ShowsFalls(Case):
    def so(self, thing, wanted, defs=NUMBERS, chart=EVEN_IS_NAT):
        with self.subTest(repr(thing)[:80]):
            self.told(shows_falls(defs, chart, thing), wanted)

    def test_ordinary(self):
        for chart in [EVEN_IS_NAT, ODD_IS_NAT, LESS_THAN_NEXT]:
            self.so(rings(NUMBERS, chart), True, NUMBERS, chart)
            self.so([], False, NUMBERS, chart)

    def test_no_rings(self):
        chart = chart_in("nat x0 |- nat x0\nby")
        self.so([], True, NUMBERS, chart)
        self.so((), False, NUMBERS, chart)
        self.so([(0, 0, [(0, 0, 1)])], True, NUMBERS, chart)
        self.so([(0, 0, [(0, 0, 0)])], False, NUMBERS, chart)

    def test_in_any_order(self):
        chart = machine(2, [([0], 0, [1, 0]), ([0, 1], 0, [0, 0])])
        told = rings(MACHINES, chart)
        self.assertGreater(len(told), 3)
        self.so(told, True, MACHINES, chart)
        self.so(told[::-1], True, MACHINES, chart)
        self.so(told[1:] + told[:1], True, MACHINES, chart)
        self.so(sorted(told, key=repr, reverse=True), True, MACHINES, chart)

    def test_one_out(self):
        for chart in [machine(2, [([0], 0, [1, 0]), ([0, 1], 0, [0, 0])]), machine(3, [([0, 1], 0, [1, 2, 0])])]:
            told = rings(MACHINES, chart)
            self.so(told, True, MACHINES, chart)
            for out in range(len(told)):
                self.so(told[:out] + told[out + 1:], False, MACHINES, chart)

    def test_one_twice(self):
        told = rings(NUMBERS, EVEN_IS_NAT)
        self.so(told + told, True)

    def test_more_than_the_rings(self):
        told = rings(NUMBERS, EVEN_IS_NAT)
        for more in [(98, 99, []), (98, 99, [(7, 7, 0)]), (99, 99, [(0, 0, 1)]), (99, 99, [(50, 50, 1), (51, 50, 1)]),
                     (0, 0, [(0, 0, 1), (1, 1, 1)]), (0, 99, [(0, 3, 1)]), (99, 0, [(3, 0, 1)]), (0, 99, []), (5, 5, [(7, 7, 1)])]:
            self.so(told + [more], True)
            self.so([more] + told, True)
            self.so([more], False)

    def test_more_that_is_not_right(self):
        told = rings(NUMBERS, EVEN_IS_NAT)
        for more in [(99, 99, []), (99, 99, [(0, 0, 0)]), (0, 0, []), (0, 0, [(0, 0, 0)]), (0, 0, [(1, 1, 1)]), (0, 99, [(0, 3, 0)]),
                     (99, 0, [(3, 0, 0)]), (99, 99, [(0, 1, 1)]), (99, 99, [(0, 0, 0), (1, 0, 1)]), (99, 99, [(0, 1, 1), (1, 0, 1)])]:
            self.so(told + [more], False)

    def test_closed_up_among_more(self):
        told = rings(NUMBERS, EVEN_IS_NAT)
        self.so(told + [(7, 8, [(0, 1, 0)]), (8, 9, [(1, 2, 1)])], False)
        self.so(told + [(7, 8, [(0, 1, 0)]), (8, 9, [(1, 2, 1)]), (7, 9, [(0, 2, 1)])], True)
        self.so(told + [(7, 8, [(0, 1, 0)]), (8, 9, [(1, 2, 1)]), (7, 9, [(0, 2, 0)])], False)
        self.so(told + [(7, 9, [(0, 2, 1)]), (8, 9, [(1, 2, 1)]), (7, 8, [(0, 1, 0)])], True)

    def test_a_link_exchanged(self):
        for links in [[(0, 0, 0)], [(0, 1, 1)], [(1, 0, 1)], [], [(0, 0, 1), (0, 1, 0)]]:
            self.so([(0, 0, links)], False)
        chart = machine(2, [([0], 0, [1, 0])])
        told = rings(MACHINES, chart)
        for at, (line, other, links) in enumerate(told):
            for k, (i, j, falls) in enumerate(links):
                for link in [(i, j, 1 - falls), (1 - i, j, falls), (i, 1 - j, falls), (i, 7, falls)]:
                    spoilt = deepcopy(told)
                    spoilt[at][2][k] = link
                    self.so(spoilt, False, MACHINES, chart)

    def test_that_only_rings_together_do_not_fall(self):
        told = rings(MACHINES, ONLY_TOGETHER)
        self.so(leaps(MACHINES, ONLY_TOGETHER), False, MACHINES, ONLY_TOGETHER)
        self.so(told, False, MACHINES, ONLY_TOGETHER)
        for out in range(4):
            self.so(told[:out] + told[out + 1:], False, MACHINES, ONLY_TOGETHER)

    def test_how_it_is_written(self):
        good = (0, 0, [(0, 0, 1)])
        self.so([good], True)
        for thing in [(good,), good, [[0, 0, [(0, 0, 1)]]], [(0, 0, ((0, 0, 1),))], [(0, 0, [[0, 0, 1]])], [(0, 0, (0, 0, 1))],
                      [(0, 0)], [(0, 0, [(0, 0, 1)], 0)], [([(0, 0, 1)], 0, 0)], [(False, 0, [(0, 0, 1)])],
                      [(0, False, [(0, 0, 1)])], [(0, 0, [(False, 0, 1)])], [(0, 0, [(0, False, 1)])], [(0, 0, [(0, 0, True)])],
                      [(0, 0, [(0, 0)])], [(0, 0, [(0, 0, 1, 0)])], [(0, 0, None)], [(0, 0, [None])], [(0, 0, 1)], [None], None,
                      [()], [[]], "", "0", 0, True, [(0, 0, [(0, 0, "1")])], [("0", 0, [(0, 0, 1)])], [(0, 0, [(0, 0, [1])])]]:
            self.so(thing, False)
        for more in [(99, 99, ((0, 0, 1),)), (-1, 99, []), (98, -1, []), (98, 99, [(-1, 0, 1)]), (98, 99, [(0, -1, 1)]),
                     (98, 99, [(0, 0, 2)]), (98, 99, [(0, 0, -1)]), (98, 99, ()), (98, 99, [(0, 0, False)]), (98, True, []),
                     (98, 99, [()]), (98, 99), (98,), (), None, [], [98, 99, []], (98, 99, [], []), (98, 99, {}), (None, 99, [])]:
            self.so([good, more], False)
            self.so([more, good], False)

    def test_links_rise_and_of_one_place_and_other_one_is_alone(self):
        good = (0, 0, [(0, 0, 1)])
        for links, wanted in [([(0, 0, 1), (0, 1, 0), (1, 0, 0)], True), ([(0, 1, 0), (0, 0, 1)], False),
                              ([(1, 0, 0), (0, 0, 1)], False), ([(0, 0, 0), (0, 0, 1)], False), ([(0, 0, 1), (0, 0, 1)], False),
                              ([(0, 0, 1), (0, 0, 0)], False), ([(0, 9, 0), (0, 10, 0)], True), ([(0, 10, 0), (0, 9, 0)], False),
                              ([(0, 1, 1), (0, 2, 0)], True), ([(0, 1, 0), (0, 2, 1)], True), ([(2, 0, 0), (10, 0, 0)], True)]:
            self.so([good, (98, 99, links)], wanted)

    def test_odd_things(self):
        good = (0, 0, [(0, 0, 1)])
        for thing in odd_things():
            self.so(thing, False)
            self.so([good, thing], False)
            self.so([good, (98, 99, thing)], thing == [])
            self.so([good, (98, 99, [thing])], False)
            self.so([good, (98, 99, [(0, 0, thing)])], False)

    def test_as_worded(self):
        told = 0
        for seed in range(150):
            draw = Random(seed)
            chart = drawn_machine(draw, draw.choice([1, 2, 3]), draw.choice([1, 2]), 3)
            paper = rings(MACHINES, chart)
            if len(paper) <= 25:
                found = Plain(MACHINES, chart).leaps()
                for _ in range(4):
                    wanted = plain_is_paper(found, paper)
                    told += wanted
                    self.so(paper, wanted, MACHINES, chart)
                    ring = (draw.randrange(4), draw.randrange(4), [(i, j, 1) for i in range(2) for j in range(2) if draw.random() < 0.7])
                    paper = paper + [ring] if ring not in paper else paper[1:]
        self.assertGreater(told, 50)

    def test_two_hundred(self):
        for chart, many, let_by in great_machines():
            told = rings(MACHINES, chart)
            self.assertEqual(len(told), many)
            self.so(told, let_by, MACHINES, chart)
            self.so(told[:-1], False, MACHINES, chart)

    def test_refused_whatever_the_thing(self):
        for chart, line in WRONG:
            for thing in [[], None, 0, "paper", [(0, 0, [(0, 0, 1)])], (), [[]]]:
                self.refused(BadChart, line, shows_falls, NUMBERS, chart, thing)
        self.refused(BadChart, 1, shows_falls, PAIR, LEANING, None)

    def test_the_thing_is_not_changed(self):
        told = rings(MACHINES, ONLY_TOGETHER)[::-1]
        kept = deepcopy(told)
        shows_falls(MACHINES, ONLY_TOGETHER, told)
        self.told(told, kept)

    def test_by_name(self):
        self.told(shows_falls(thing=[(0, 0, [(0, 0, 1)])], chart=EVEN_IS_NAT, defs=NUMBERS), True)
        self.told(shows_falls(known=KNOWN, thing=[(0, 0, [(0, 0, 0)])], chart=LEANING, defs=PAIR), False)
        self.refused(BadChart, 1, shows_falls, thing=[], chart=LEANING, defs=PAIR)
        self.assertRaises(TypeError, shows_falls, PAIR, LEANING, [], KNOWN)

    def test_what_is_known(self):
        chart = chart_in("n x1 |- p x0\nuse 0\nlean abc x0=x0\nsplit 0\nback 0 x0=x0 x1=x1")
        self.told(shows_falls(PAIR, chart, [(0, 0, [(0, 0, 1)])], known=KNOWN), True)
        self.told(shows_falls(PAIR, chart, [(0, 0, [(0, 0, 1)])], known=tuple(KNOWN)), True)


class TogetherOfRings(Case):
    def test_each_two_are_there(self):
        for chart, _, _ in great_machines()[:2]:
            told = rings(MACHINES, chart)
            keys = {repr(ring) for ring in told}
            for first in told[::7]:
                for second in told:
                    if first[1] == second[0]:
                        self.assertIn(repr((first[0], second[1], together(first[2], second[2]))), keys)


if __name__ == "__main__":
    unittest.main()

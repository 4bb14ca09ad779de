import unittest
from copy import deepcopy
from random import Random

from helper import NUMBERS, Case
from plaincharts import MACHINE_RULES, Plain, drawn_chart, drawn_machine, drawn_saying, machine, plain_together
from plainly import drawn_definitions
from ringproofs.charts import goals, lines
from ringproofs.charttexts import chart_in
from ringproofs.deftexts import definitions_in
from ringproofs.errors import BadChart
from ringproofs.leaps import leaps, together
from ringproofs.sayingtexts import saying_in
from test_charts import EVEN_IS_NAT, LESS_THAN_NEXT, ODD_IS_NAT, PAIR

MACHINES = definitions_in(MACHINE_RULES)
FOUR_GOALS = chart_in("\n".join([
    "n x1, n x2, n x3 |- go x0", "use 2", "split 0", "back 0 x0=x0 x1=x2 x2=x1 x3=x3", "split 1", "back 1 x0=x0 x1=x1 x2=x2 x3=x3",
    "use 1", "split 2", "back 3 x0=x0 x1=x3 x2=x3 x3=x1", "split 0", "back 5 x0=x0 x1=x1 x2=x2 x3=x3"]))


def drawn_links(draw, places):
    return [(i, j, draw.randrange(2)) for i in range(places) for j in range(places) if draw.random() < 0.4]


class Together(Case):
    def so(self, links, others, wanted):
        self.told(together(links, others), wanted)

    def test_ordinary(self):
        self.so([(0, 1, 0)], [(1, 2, 0)], [(0, 2, 0)])
        self.so([(0, 1, 1)], [(1, 2, 0)], [(0, 2, 1)])
        self.so([(0, 1, 0)], [(1, 2, 1)], [(0, 2, 1)])
        self.so([(0, 1, 1)], [(1, 2, 1)], [(0, 2, 1)])
        self.so([(0, 0, 0), (1, 1, 1)], [(0, 0, 0), (1, 1, 0)], [(0, 0, 0), (1, 1, 1)])
        self.so([(0, 1, 0), (1, 0, 1)], [(0, 1, 0), (1, 0, 1)], [(0, 0, 1), (1, 1, 1)])

    def test_bare(self):
        self.so([], [], [])
        self.so([(0, 0, 1)], [], [])
        self.so([], [(0, 0, 1)], [])

    def test_what_is_handed_on_to_nothing(self):
        self.so([(0, 1, 1)], [(0, 2, 0)], [])
        self.so([(0, 0, 1), (0, 1, 0), (2, 3, 0)], [(1, 4, 0), (2, 5, 1)], [(0, 4, 0)])

    def test_one_place_by_two_ways(self):
        for falls in range(16):
            first, second, third, fourth = [falls >> bit & 1 for bit in range(4)]
            self.so([(0, 0, first), (0, 1, second)], [(0, 2, third), (1, 2, fourth)],
                    [(0, 2, 1 if first or second or third or fourth else 0)])

    def test_one_way_that_falls_is_enough(self):
        self.so([(3, 0, 0), (3, 1, 0), (3, 2, 0)], [(0, 7, 0), (1, 7, 1), (2, 7, 0)], [(3, 7, 1)])
        self.so([(3, 0, 1), (3, 1, 0), (3, 2, 0)], [(0, 7, 0), (1, 7, 0), (2, 7, 0)], [(3, 7, 1)])

    def test_rising(self):
        self.so([(0, 0, 0), (0, 2, 0), (1, 1, 0)], [(0, 5, 0), (1, 0, 1), (2, 3, 1)], [(0, 3, 1), (0, 5, 0), (1, 0, 1)])
        self.so([(0, 0, 0), (0, 1, 1)], [(0, 10, 0), (1, 9, 0)], [(0, 9, 1), (0, 10, 0)])

    def test_as_worded(self):
        draw = Random(5)
        for _ in range(500):
            first, second, third = drawn_links(draw, 3), drawn_links(draw, 3), drawn_links(draw, 4)
            self.so(first, second, plain_together(first, second))
            self.told(together(together(first, second), third), together(first, together(second, third)))
            kept = [(k, k, 0) for k in range(4)]
            self.told(together(kept, third), third)
            self.told(together(third, kept), third)

    def test_tuples_will_do_and_nothing_is_changed(self):
        links, others = [(0, 1, 0), (1, 0, 1)], [(0, 1, 1)]
        kept = deepcopy((links, others))
        self.told(together(tuple(links), tuple(others)), together(links, others))
        self.told((links, others), kept)

    def test_own_lists(self):
        links = [(0, 0, 1)]
        self.asked_twice(together, links, links)
        self.asked_twice(together, [], [])
        self.assertIsNot(together(links, [(0, 0, 0)]), links)

    def test_by_name(self):
        self.told(together(others=[(1, 2, 0)], links=[(0, 1, 0)]), [(0, 2, 0)])


class Leaps(Case):
    def so(self, text, wanted, defs=NUMBERS, **named):
        self.told(leaps(defs, chart_in(text), **named), wanted)

    def test_ordinary(self):
        for chart in [EVEN_IS_NAT, ODD_IS_NAT, LESS_THAN_NEXT]:
            self.told(leaps(NUMBERS, chart), [(0, 0, [(0, 0, 1)])])

    def test_no_goals(self):
        self.so("nat x0 |- nat x0\nby", [])
        self.so("|- nat s(0)\nuse 1\nuse 0", [])

    def test_back_to_itself(self):
        self.so("nat x0, odd x1 |- even x0\nback 0 x0=x0 x1=x1", [(0, 0, [(0, 0, 0), (1, 1, 0)])])
        self.so("nat x0, nat x1 |- even 0\nback 0 x0=x1 x1=x0", [(0, 0, [(0, 1, 0), (1, 0, 0)])])
        self.so("nat x0, nat x1 |- even 0\nback 0 x0=x1 x1=x1", [(0, 0, [(1, 0, 0), (1, 1, 0)])])
        self.so("|- even 0\nback 0 -", [(0, 0, [])])

    def test_to_lines_above_and_on_another_branch(self):
        self.so("p x0 |- p x0\nuse 0\nback 2 x0=x0\nback 1 x0=x0", [(1, 2, [(0, 0, 0)]), (2, 1, [(0, 0, 0)])], PAIR)
        self.so("p x0 |- p x0\nuse 0\nback 0 x0=x0\nback 1 x0=x0",
                [(0, 0, [(0, 0, 0)]), (0, 1, [(0, 0, 0)]), (1, 0, [(0, 0, 0)])], PAIR)
        self.so("n x1 |- p x0\nuse 0\nsplit 0\nback 1 x0=x0 x1=x1\nback 2 x0=x0 x1=x1",
                [(1, 1, [(0, 0, 1)]), (2, 1, [(0, 0, 0)])], PAIR)

    def test_a_goal_with_no_line_of_back_beneath(self):
        self.so("p x0 |- p x0\nuse 0\nby\nback 1 x0=x0", [], PAIR)
        self.so("p x0 |- p x0\nuse 0\nby\nback 2 x0=x0", [(2, 2, [(0, 0, 0)])], PAIR)

    def test_falls_on_the_way_alone(self):
        # The split ahead of the line that back goes to isn't on the way.
        self.so("n x1 |- p x0\nsplit 0\nback 1 x0=x0 x1=x1", [(1, 1, [(0, 0, 0)])], PAIR)
        self.so("n x1 |- p x0\nsplit 0\nback 0 x0=x0 x1=x1", [(0, 0, [(0, 0, 1)])], PAIR)
        self.so("n x1 |- p x0\nsplit 0\nsplit 0\nback 1 x0=x0 x1=x1", [(1, 1, [(0, 0, 1)])], PAIR)

    def test_each_once(self):
        self.so("p x0 |- p x0\nuse 0\nback 0 x0=x0\nback 0 x0=x0", [(0, 0, [(0, 0, 0)])], PAIR)
        self.so("n x1 |- p x0\nuse 0\nback 0 x0=x0 x1=x1\nsplit 0\nback 0 x0=x0 x1=x1",
                [(0, 0, [(0, 0, 0)]), (0, 0, [(0, 0, 1)])], PAIR)

    def test_rising(self):
        chart = machine(2, [([], 5, [1, 0]), ([1], 0, [0, 0]), ([0, 1], 0, [0, 1])])
        self.told(leaps(MACHINES, chart), [(0, 0, [(0, 0, 0), (0, 1, 0)]), (0, 0, [(0, 0, 1), (1, 1, 1)]),
                                           (0, 5, [(0, 1, 0), (1, 0, 0)]), (5, 0, [(0, 0, 0), (1, 1, 1)])])

    def test_by_cut_and_as(self):
        self.so("nat x0, odd x1 |- even x0\ncut even x0\nback 0 x0=x0 x1=x1\nback 0 x0=x0 x1=x1",
                [(0, 0, [(0, 0, 0), (1, 1, 0)])])
        self.so("odd x0, nat x0 |- even x0\nas nat x7, odd x7 |- even x7 ; x7=x0\nback 0 x0=x7", [(0, 0, [(0, 0, 0), (1, 1, 0)])])

    def test_leans(self):
        self.so("p x0 |- p x0\nuse 0\nlean abc x0=x0\nback 0 x0=x0", [(0, 0, [(0, 0, 0)])], PAIR,
                known=[("abc", saying_in("|- p x0"))])
        self.so("p x0 |- p x0\nuse 0\nlean abc x0=x0\nback 0 x0=x0", [(0, 0, [(0, 0, 0)])], PAIR,
                known=(("abc", saying_in("|- p x0")),))

    def test_four_goals_of_three_hyps(self):
        self.told(goals(FOUR_GOALS), [0, 1, 3, 5])
        first, second = [(0, 1, 1), (1, 0, 0), (2, 2, 0)], [(0, 0, 0), (1, 1, 1), (2, 2, 0)]
        third, fourth = [(0, 2, 0), (2, 0, 1), (2, 1, 1)], [(0, 0, 1), (1, 1, 0), (2, 2, 0)]
        self.told(leaps(MACHINES, FOUR_GOALS), [(0, 0, first), (0, 1, second), (0, 3, third), (0, 5, fourth), (1, 0, first),
                                                (3, 1, second), (5, 3, third), (5, 5, fourth)])

    def test_as_worded(self):
        for seed in range(250):
            draw = Random(seed)
            chart = drawn_machine(draw, 3, draw.choice([2, 3]), 4)
            self.told(leaps(MACHINES, chart), Plain(MACHINES, chart).leaps())
            defs = drawn_definitions(seed)
            chart = drawn_chart(draw, defs, drawn_saying(draw, defs, [0, 1], 3, 2), 12)
            if chart is not None:
                self.told(leaps(defs, chart), Plain(defs, chart).leaps())

    def test_thirty_lines(self):
        text = "n x1 |- p x0\n" + "split 0\n" * 29 + "back 0 x0=x0 x1=x1"
        self.so(text, [(0, 0, [(0, 0, 1)])], PAIR)
        self.assertEqual(len(lines(PAIR, chart_in(text))), 30)

    def test_refused(self):
        for text, line in [("|- nat 0", 0), ("|- nat 0\nby", 0), ("|- nat 0\nuse 0\nuse 0", 1), ("|- nat 0\nback 1 -", 0),
                           ("|- nat 0\nlean abc -", 0), ("nat x0 |- nat x0\nback 0 -", 0)]:
            self.refused(BadChart, line, leaps, NUMBERS, chart_in(text))
        self.refused(BadChart, 0, leaps, NUMBERS, chart_in("|- nat 0\nlean abc -"), known=[("abd", saying_in("|- nat 0"))])

    def test_own_lists(self):
        for chart in [EVEN_IS_NAT, chart_in("nat x0 |- nat x0\nby")]:
            self.asked_twice(leaps, NUMBERS, chart)
        self.asked_twice(leaps, MACHINES, machine(2, [([0], 0, [0, 1]), ([1], 2, [1, 1])]))

    def test_by_name(self):
        known = [("abc", saying_in("|- p x0"))]
        chart = chart_in("p x0 |- p x0\nuse 0\nlean abc x0=x0\nback 0 x0=x0")
        self.told(leaps(known=known, chart=chart, defs=PAIR), [(0, 0, [(0, 0, 0)])])
        self.refused(BadChart, 1, leaps, chart=chart, defs=PAIR)
        self.assertRaises(TypeError, leaps, PAIR, chart, known)


if __name__ == "__main__":
    unittest.main()

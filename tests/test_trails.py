import unittest
from copy import deepcopy

from helper import NAT, NUMBERS, Case, odd_things, steps
from ringproofs.charttexts import chart_in
from ringproofs.deftexts import definitions_in
from ringproofs.errors import BadChart, Leans, NotLetBy, NoWorld, RingError
from ringproofs.rounds import is_let_by, shows_round
from ringproofs.ruletexts import atom_in, rule_in
from ringproofs.termtexts import binding_in
from ringproofs.trails import longest, shows_trail
from ringproofs.walks import walked
from ringproofs.worlds import worlds
from test_charts import EVEN_IS_NAT, LESS_THAN_NEXT, ODD_IS_NAT, PAIR
from test_judgement import drawn_cases
from test_rounds import NOT_LET_BY
from test_walks import ALL_THREES, CUT, THREES

TWO = binding_in("x0=s(s(0))")
TRAIL = [(0, [3]), (2, [2]), (3, [2]), (4, [1]), (5, [1]), (0, [1]), (1, [])]
LEANING = chart_in("p x0 |- p x0\nuse 7\nlean abc -")


def refused_so(case, call, *handed):
    """That it's refused for every reason, in its order, by class and `what`."""
    zero = binding_in("x0=0")
    case.refused(Leans, "abc", call, PAIR, LEANING, zero, *handed)
    case.refused(BadChart, 1, call, NUMBERS, chart_in("odd x0 |- nat x0\nback 0 x0=x0\nby"), zero, *handed)
    for chart in NOT_LET_BY:
        with case.assertRaises(RingError) as caught:
            call(NUMBERS, chart, zero if chart[0][0] else (), *handed)
        case.assertIs(type(caught.exception), NotLetBy)
        case.told(shows_round(NUMBERS, chart, caught.exception.what), True)
    case.refused(NoWorld, atom_in("odd 0"), call, NUMBERS, ODD_IS_NAT, zero, *handed)
    chart = chart_in("nat x0, odd x0, even x0 |- nat x0\nby")
    case.refused(NoWorld, atom_in("even s(0)"), call, NUMBERS, chart, binding_in("x0=s(0)"), *handed)


class ShowsTrail(Case):
    def so(self, thing, wanted, chart=EVEN_IS_NAT, world=TWO):
        with self.subTest(repr(thing)[:80]):
            self.told(shows_trail(NUMBERS, chart, world, thing), wanted)

    def test_the_trail(self):
        self.so(TRAIL, True)
        self.so([(0, [1]), (1, [])], True, EVEN_IS_NAT, binding_in("x0=0"))
        self.so(walked(NUMBERS, CUT, binding_in("x0=s(0)"))[0], True, CUT, binding_in("x0=s(0)"))
        self.so([(0, [])], True, chart_in("|- nat 0\nuse 0"), ())

    def test_of_another_world_or_chart(self):
        self.so(TRAIL, False, EVEN_IS_NAT, binding_in("x0=0"))
        self.so([(0, [1]), (1, [])], False)
        self.so(TRAIL, False, LESS_THAN_NEXT)

    def test_but_for_one_row(self):
        for at in range(len(TRAIL)):
            self.so(TRAIL[:at] + TRAIL[at + 1:], False)
            self.so(TRAIL[:at] + [TRAIL[at]] + TRAIL[at:], False)
            line, heights = TRAIL[at]
            self.so(TRAIL[:at] + [(line + 1, heights)] + TRAIL[at + 1:], False)
            self.so(TRAIL[:at] + TRAIL[at:][::-1], at == len(TRAIL) - 1)
        self.so([], False)
        self.so(TRAIL + [(0, [1])], False)

    def test_but_for_one_height(self):
        for at, (line, heights) in enumerate(TRAIL):
            for other in [[high + 1 for high in heights] or [1], [high - 1 for high in heights] or [None], heights + [1],
                          heights[1:] or [0], [None] * len(heights) or [[]]]:
                self.so(TRAIL[:at] + [(line, other)] + TRAIL[at + 1:], False)

    def test_kinds(self):
        self.so(tuple(TRAIL), False)
        self.so([list(row) for row in TRAIL], False)
        self.so([(line, tuple(heights)) for line, heights in TRAIL], False)
        zero = binding_in("x0=0")
        for thing in [[(False, [1]), (1, [])], [(0, [True]), (1, [])], [(0, [1]), (True, [])], [(0, [1]), (1, ())], [(0, [1]), (1,)],
                      [(0, [1]), (1, [], ())], [(0, [1]), [1, []]], [(0, [1]), (1, None)], [(0, [1]), (1, False)], "trail", None]:
            self.so(thing, False, EVEN_IS_NAT, zero)

    def test_odd_things(self):
        for thing in odd_things():
            self.so(thing, False)
            self.so([thing], False)
            self.so([*TRAIL[:-1], thing], False)
            self.so([*TRAIL[:-1], (1, thing)], thing == [])
            self.so([(0, [thing]), *TRAIL[1:]], False)

    def test_refused_whatever_the_thing(self):
        for thing in [[], None, TRAIL, [(0, [1]), (1, [])]]:
            refused_so(self, shows_trail, thing)

    def test_nothing_is_changed(self):
        thing = deepcopy(TRAIL)
        for _ in range(2):
            self.told(shows_trail(NUMBERS, EVEN_IS_NAT, TWO, thing), True)
        self.told(thing, TRAIL)

    def test_by_name(self):
        self.told(shows_trail(thing=TRAIL, world=TWO, chart=EVEN_IS_NAT, defs=NUMBERS), True)
        self.assertRaises(TypeError, shows_trail, NUMBERS, EVEN_IS_NAT, TWO)


class Longest(Case):
    def test_ordinary(self):
        for most, signs, many in [(1, 1, 2), (2, 1, 2), (3, 3, 7), (4, 3, 7), (5, 5, 12)]:
            self.told(longest(NUMBERS, EVEN_IS_NAT, most), (((0, steps(signs - 1)),), many))
        self.told(longest(NUMBERS, LESS_THAN_NEXT, 4), (((0, steps(3)),), 11))
        self.told(longest(NUMBERS, LESS_THAN_NEXT, 1), (((0, steps(0)),), 2))

    def test_none(self):
        self.told(longest(NUMBERS, ODD_IS_NAT, 1), None)
        self.told(longest(NUMBERS, ODD_IS_NAT, 2), (((0, steps(1)),), 4))
        self.told(longest(NUMBERS, chart_in("none x0 |- nat x0\nsplit 0"), 5), None)
        self.told(longest(NUMBERS, chart_in("nat x0, odd 0 |- nat x0\nby"), 5), None)

    def test_the_second_hyp_alone_does_not_hold(self):
        chart = chart_in("nat x0, odd x0 |- nat x0\nby")
        self.told(longest(NUMBERS, chart, 1), None)
        self.told(longest(NUMBERS, chart, 3), (binding_in("x0=s(0)"), 1))

    def test_of_several_as_long_the_first(self):
        self.told(longest(NUMBERS, chart_in("nat x0 |- nat x0\nby"), 5), (binding_in("x0=0"), 1))
        chart = chart_in("nat x0, nat x3 |- less x0 s(x0)\nsplit 0\nuse 0\nuse 1\nback 0 x0=x4 x3=x3")
        self.told(longest(NUMBERS, chart, 3), (binding_in("x0=s(s(0)) x3=0"), 8))
        chart = chart_in("less x0 x1 |- nat x0\nsplit 0\nuse 0\nuse 1\nback 0 x0=x2 x1=x3")
        self.told(longest(NUMBERS, chart, 4), (binding_in("x0=s(s(0)) x1=s(s(s(0)))"), 8))
        self.told(longest(NUMBERS, chart, 2), (binding_in("x0=0 x1=s(0)"), 2))

    def test_without_variables_and_without_hyps(self):
        self.told(longest(NUMBERS, chart_in("|- nat s(0)\nuse 1\nuse 0"), 3), ((), 2))
        self.told(longest(NUMBERS, chart_in("|- less 0 s(x7)\nuse 0"), 3), (binding_in("x7=0"), 1))
        self.told(longest(NUMBERS, chart_in("nat 0 |- nat 0\nby"), 1), ((), 1))

    def test_great(self):
        self.told(longest(THREES, ALL_THREES, 5), (((0, steps(4)),), 362))

    def test_as_worded(self):
        found = 0
        for defs, chart in drawn_cases(400):
            if not is_let_by(defs, chart):
                continue
            best = None
            for world in worlds(chart[0], 3):
                try:
                    many = len(walked(defs, chart, world)[0])
                except NoWorld:
                    continue
                if best is None or many > best[1]:
                    best = (world, many)
            self.told(longest(defs, chart, 3), best)
            found += best is not None and best[1] > 3
        self.assertGreater(found, 20)

    def test_refused_ahead_of_all(self):
        self.refused(Leans, "abc", longest, PAIR, LEANING, 2)
        self.refused(BadChart, 1, longest, NUMBERS, chart_in("odd x0 |- nat x0\nback 0 x0=x0\nby"), 1)
        # No world is there of these, but the round is told ahead of that.
        self.refused(NotLetBy, [0], longest, NUMBERS, chart_in("none x0 |- nat x0\nback 0 x0=x0"), 2)
        self.refused(NotLetBy, [0], longest, NUMBERS, chart_in("odd x0 |- nat x0\nback 0 x0=x0"), 1)
        self.refused(BadChart, 0, longest, NUMBERS, chart_in("none x0 |- nat x0\nby"), 2)

    def test_rules_told_behind(self):
        defs = definitions_in(NAT)
        chart = chart_in("odd x0 |- odd x0\nby")
        self.told(longest(defs, chart, 2), None)
        defs.tell(rule_in("odd s(x0) if nat x0"))
        self.told(longest(defs, chart, 2), (binding_in("x0=s(0)"), 1))
        self.told(longest(defs, chart, 2), (binding_in("x0=s(0)"), 1))

    def test_by_name(self):
        self.told(longest(most=3, chart=EVEN_IS_NAT, defs=NUMBERS), (TWO, 7))
        self.assertRaises(TypeError, longest, NUMBERS, EVEN_IS_NAT)


if __name__ == "__main__":
    unittest.main()

import unittest
from copy import deepcopy

from helper import EVEN, NAT, NUMBERS, Case, steps
from plaincharts import filled_atom
from plainly import all_heights
from plainwalks import Walk
from ringproofs.charttexts import chart_in
from ringproofs.definitions import Definitions
from ringproofs.deftexts import definitions_in
from ringproofs.errors import BadChart, Leans, NotLetBy, NoWorld, RingError
from ringproofs.heights import derivation, is_derivation
from ringproofs.rounds import is_let_by, shows_round
from ringproofs.ruletexts import atom_in, rule_in
from ringproofs.termtexts import binding_in
from ringproofs.walks import walked
from ringproofs.worlds import worlds
from test_charts import EVEN_IS_NAT, LESS_THAN_NEXT, ODD_IS_NAT, PAIR
from test_judgement import drawn_cases
from test_leaps import MACHINES
from test_papers import ONLY_TOGETHER
from test_rounds import NOT_LET_BY

THREES = definitions_in(NAT + "\nw 0\nw s(x0) if w x0, w x0, w x0")
ALL_THREES = chart_in("nat x0 |- w x0\nsplit 0\nuse 0\nuse 1\nback 0 x0=x1\nback 0 x0=x1\nback 0 x0=x1")
CUT = chart_in("odd x0 |- nat s(x0)\ncut even s(x0)\nuse 1\nby\nas even x0 |- nat x0 ; x0=s(x0)\n"
               "split 0\nuse 0\nuse 1\nsplit 0\nuse 1\nback 4 x0=x2")


class Walks(Case):
    def walks(self, defs, chart, text, *wanted):
        """That the trail in this world is that, and the list a derivation of the goal."""
        world = binding_in(text)
        told = walked(defs, chart, world)
        self.assertIs(type(told), tuple)
        self.assertEqual(len(told), 2)
        self.told(told[0], list(wanted))
        goal = filled_atom(chart[0][1], dict(world))
        self.told(is_derivation(defs, goal, told[1]), True)


class Walked(Walks):
    def test_even_is_nat(self):
        self.walks(NUMBERS, EVEN_IS_NAT, "x0=0", (0, [1]), (1, []))
        self.walks(NUMBERS, EVEN_IS_NAT, "x0=s(s(0))", (0, [3]), (2, [2]), (3, [2]), (4, [1]), (5, [1]), (0, [1]), (1, []))
        self.walks(NUMBERS, EVEN_IS_NAT, "x0=s(s(s(s(0))))", (0, [5]), (2, [4]), (3, [4]), (4, [3]), (5, [3]), (0, [3]), (2, [2]),
                   (3, [2]), (4, [1]), (5, [1]), (0, [1]), (1, []))

    def test_odd_is_nat(self):
        self.walks(NUMBERS, ODD_IS_NAT, "x0=s(0)", (0, [2]), (1, [1]), (2, [1]), (3, []))
        self.walks(NUMBERS, ODD_IS_NAT, "x0=s(s(s(0)))", (0, [4]), (1, [3]), (2, [3]), (4, [2]), (5, [2]), (0, [2]), (1, [1]),
                   (2, [1]), (3, []))

    def test_less_than_next(self):
        self.walks(NUMBERS, LESS_THAN_NEXT, "x0=0", (0, [1]), (1, []))
        self.walks(NUMBERS, LESS_THAN_NEXT, "x0=s(s(0))", (0, [3]), (2, [2]), (3, [2]), (0, [2]), (2, [1]), (3, [1]), (0, [1]),
                   (1, []))

    def test_of_one_line(self):
        self.walks(NUMBERS, chart_in("|- nat 0\nuse 0"), "-", (0, []))
        self.walks(NUMBERS, chart_in("nat x5 |- nat x5\nby"), "x5=s(s(0))", (0, [3]))
        self.walks(NUMBERS, chart_in("nat 0, nat s(0) |- nat 0\nby"), "-", (0, [1, 2]))

    def test_of_two_variables(self):
        chart = chart_in("less x0 x1 |- nat x0\nsplit 0\nuse 0\nuse 1\nback 0 x0=x2 x1=x3")
        self.walks(NUMBERS, chart, "x0=0 x1=s(s(0))", (0, [1]), (1, []))
        self.walks(NUMBERS, chart, "x0=s(0) x1=s(s(s(s(0))))", (0, [2]), (2, [1]), (3, [1]), (0, [1]), (1, []))

    def test_all_hyps_have_their_heights_alike_ones_too(self):
        chart = chart_in("nat x0, nat x1, even x1 |- nat x1\nsplit 0\nby\nby")
        self.walks(NUMBERS, chart, "x0=0 x1=0", (0, [1, 1, 1]), (1, [1, 1]))
        self.walks(NUMBERS, chart, "x0=s(s(0)) x1=s(s(0))", (0, [3, 3, 3]), (2, [2, 3, 3]))

    def test_use_goes_on_with_each_premise(self):
        trail = [(0, [2]), (2, [1]), *[row for line in (3, 4, 5) for row in [(line, [1]), (0, [1]), (1, [])]]]
        self.walks(THREES, ALL_THREES, "x0=s(0)", *trail)
        self.assertEqual(len(walked(THREES, ALL_THREES, ((0, steps(4)),))[0]), 362)

    def test_cut_and_as(self):
        self.walks(NUMBERS, CUT, "x0=s(0)", (0, [2]), (1, [2]), (2, [2]), (3, [2, 3]), (4, [3]), (6, [2]), (7, [2]), (8, [1]),
                   (9, [1]), (4, [1]), (5, []))

    def test_as_that_drops_and_turns_about(self):
        chart = chart_in("nat x0, even x1, odd x2 |- nat s(x0)\nas odd x0, nat x1 |- nat s(x1) ; x0=x2 x1=x0\nuse 1\nby")
        self.walks(NUMBERS, chart, "x0=s(s(0)) x1=0 x2=s(0)", (0, [3, 1, 2]), (1, [2, 3]), (2, [2, 3]))

    def test_back_to_another_branch(self):
        chart = chart_in("nat x1 |- nat x1\ncut nat x1\nback 2 x1=x1\nsplit 0\nuse 0\nuse 1\nby")
        self.walks(THREES, chart, "x1=0", (0, [1]), (1, [1]), (2, [1]), (3, []), (2, [1]), (3, []))
        self.walks(THREES, chart, "x1=s(0)", (0, [2]), (1, [2]), (2, [2]), (4, [1]), (5, [1]), (2, [2]), (4, [1]), (5, [1]))

    def test_the_rule_of_least_height_though_told_later(self):
        defs = definitions_in("a s(x0) if a x0\na 0\nb x0 if a x0\nb s(x0)\nb s(x0) if c x0\nc 0\ng x0\nz 0")
        chart = chart_in("b x0 |- g x0\nsplit 0\nuse 0\nuse 0\nuse 0")
        self.walks(defs, chart, "x0=0", (0, [2]), (1, [1]))
        self.walks(defs, chart, "x0=s(0)", (0, [1]), (2, []))
        self.walks(defs, chart, "x0=s(s(0))", (0, [1]), (2, []))

    def test_of_rules_of_like_height_the_first(self):
        for rules, premise in [("b x0 if a x0\nb x0 if c x0", 1), ("b x0 if c x0\nb x0 if a x0", 1),
                               ("b x0 if e x0\nb x0 if a x0\nb x0 if c x0", 2)]:
            defs = definitions_in(rules + "\na x0\nc x0\ng x0\ne x0 if a x0")
            chart = chart_in("b x0 |- g x0\nsplit 0\n" + "\n".join(["use 0"] * rules.count("b x0")))
            self.walks(defs, chart, "x0=s(0)", (0, [2]), (premise, [1]))

    def test_rules_that_do_not_fit_leave_no_premise(self):
        defs = definitions_in("b 0\nb f(x0,x1) if b x0\nb s(x0)\nb s(x0) if b x0\nb f(x0,x1) if b x1, b x0\ng x0")
        chart = chart_in("b s(x0) |- g x0\nsplit 0\nuse 0\nuse 0")
        self.walks(defs, chart, "x0=0", (0, [1]), (1, []))
        chart = chart_in("b f(x3,s(x1)) |- g x0\nsplit 0\nuse 0\nuse 0")
        self.walks(defs, chart, "x0=0 x1=0 x3=0", (0, [2]), (1, [1]))
        defs = definitions_in("b 0\nb f(x0,x1) if c x0\nb f(x0,x1) if b x1, b x0\ng x0")
        chart = chart_in("b f(x3,x1) |- g x0\nsplit 0\nuse 0\nuse 0")
        self.walks(defs, chart, "x0=0 x1=0 x3=f(0,0)", (0, [3]), (2, [1, 2]))

    def test_a_term_that_stands_twice_is_opened_once(self):
        defs = definitions_in("d f(x0,x1) f(x2,x3) if n x0, n x3\nn 0\nn s(x0) if n x0\ng x0")
        chart = chart_in("d x5 x5 |- g x5\nsplit 0\nsplit 1\nuse 0\nuse 0")
        self.walks(defs, chart, "x5=f(s(0),s(s(0)))", (0, [4]), (1, [2, 3]), (3, [2, 2]))
        self.walks(defs, chart, "x5=f(s(0),0)", (0, [3]), (1, [2, 1]), (2, [2]))

    def test_terms_of_seven_signs_and_a_long_trail(self):
        told, shown = walked(NUMBERS, EVEN_IS_NAT, ((0, steps(6)),))
        self.assertEqual(len(told), 3 * 5 + 2)
        self.told(shown, derivation(NUMBERS, ("nat", steps(6))))
        self.assertEqual(len(walked(THREES, ALL_THREES, ((0, steps(5)),))[0]), 1091)
        self.assertEqual(len(walked(THREES, ALL_THREES, ((0, steps(6)),))[0]), 3278)

    def test_as_worded(self):
        walks = 0
        for defs, chart in drawn_cases(500):
            saying = chart[0]
            if not is_let_by(defs, chart):
                continue
            for world in worlds(saying, 2):
                wrong = [filled_atom(hyp, dict(world)) for hyp in saying[0]]
                wrong = [atom for atom in wrong if atom not in all_heights(defs, atom)]
                if wrong:
                    self.refused(NoWorld, wrong[0], walked, defs, chart, world)
                    continue
                told, shown = walked(defs, chart, world)
                walks += 1
                self.told(told, Walk(defs, chart, world).rows)
                self.told(is_derivation(defs, filled_atom(saying[1], dict(world)), shown), True)
        self.assertGreater(walks, 300)

    def test_own_lists(self):
        self.asked_twice(lambda: list(walked(NUMBERS, CUT, binding_in("x0=s(0)"))))

    def test_nothing_is_changed_and_rules_told_behind_are_looked_at(self):
        defs = definitions_in(NAT + "\n" + EVEN)
        world = binding_in("x0=s(s(0))")
        kept = deepcopy((EVEN_IS_NAT, world))
        first = walked(defs, EVEN_IS_NAT, world)
        self.told(walked(defs, EVEN_IS_NAT, world), first)
        self.told((EVEN_IS_NAT, world), kept)
        self.told(defs == definitions_in(NAT + "\n" + EVEN), True)
        defs.tell(rule_in("even s(x0)"))
        self.refused(BadChart, 6, walked, defs, EVEN_IS_NAT, world)
        chart = chart_in("even x0 |- even x0\nby")
        self.told(walked(defs, chart, world)[0], [(0, [1])])

    def test_by_name(self):
        world = binding_in("x0=0")
        self.told(walked(world=world, chart=EVEN_IS_NAT, defs=NUMBERS), walked(NUMBERS, EVEN_IS_NAT, world))
        self.assertRaises(TypeError, walked, NUMBERS, EVEN_IS_NAT, world, ())


class Refused(Walks):
    def not_let_by(self, defs, chart, world):
        with self.assertRaises(RingError) as caught:
            walked(defs, chart, world)
        self.assertIs(type(caught.exception), NotLetBy)
        self.told(shows_round(defs, chart, caught.exception.what), True)

    def test_leans(self):
        self.refused(Leans, "abc", walked, PAIR, chart_in("p x0 |- p x0\nuse 0\nlean abc x0=x0\nby"), binding_in("x0=0"))
        text = "p x0 |- p x0\nuse 0\nlean zz x0=x0\nlean b x0=x0"
        self.refused(Leans, "b", walked, PAIR, chart_in(text), binding_in("x0=0"))

    def test_leans_ahead_of_all(self):
        for text in ["p x0 |- p x0\nuse 7\nlean abc -", "p x0 |- p x0\nlean abc x0=x0\nby", "p x0 |- p x0\nuse 0\nlean abc x0=x0",
                     "p x0 |- p x0\nuse 0\nlean abc x0=x0\nback 0 x0=x0", "nat x0 |- p x0\nback 9 -\nlean abc -"]:
            self.refused(Leans, "abc", walked, PAIR, chart_in(text), binding_in("x0=0"))

    def test_bad_chart_ahead_of_rounds_and_worlds(self):
        self.refused(BadChart, 1, walked, PAIR, chart_in("p x0 |- p x0\nuse 0\nuse 1\nback 0 x0=x0"), binding_in("x0=0"))
        self.refused(BadChart, 0, walked, NUMBERS, chart_in("odd x0 |- nat x0"), binding_in("x0=0"))
        self.refused(BadChart, 1, walked, NUMBERS, chart_in("odd x0 |- nat x0\nback 0 x0=x0\nby"), binding_in("x0=0"))

    def test_not_let_by_ahead_of_worlds(self):
        for chart in NOT_LET_BY:
            for text in ["x0=0", "x0=s(0)"]:
                self.not_let_by(NUMBERS, chart, binding_in(text) if chart[0][0] else ())
        self.not_let_by(MACHINES, ONLY_TOGETHER, binding_in("x0=0 x1=0 x2=0 x3=0"))
        self.not_let_by(NUMBERS, chart_in("odd x0 |- nat x0\nback 0 x0=x0"), binding_in("x0=0"))

    def test_own_round(self):
        with self.assertRaises(NotLetBy) as first:
            walked(NUMBERS, NOT_LET_BY[0], binding_in("x0=0"))
        first.exception.what.append(7)
        self.refused(NotLetBy, [0], walked, NUMBERS, NOT_LET_BY[0], binding_in("x0=0"))

    def test_no_world(self):
        self.refused(NoWorld, atom_in("even s(0)"), walked, NUMBERS, EVEN_IS_NAT, binding_in("x0=s(0)"))
        self.refused(NoWorld, atom_in("odd 0"), walked, NUMBERS, ODD_IS_NAT, binding_in("x0=0"))
        chart = chart_in("nat x0, odd x0, even x0 |- nat x0\nby")
        self.refused(NoWorld, atom_in("nat f(0,0)"), walked, NUMBERS, chart, binding_in("x0=f(0,0)"))
        self.refused(NoWorld, atom_in("odd 0"), walked, NUMBERS, chart, binding_in("x0=0"))
        self.refused(NoWorld, atom_in("even s(0)"), walked, NUMBERS, chart, binding_in("x0=s(0)"))
        self.refused(NoWorld, atom_in("nat 0"), walked, Definitions(), chart_in("nat x0 |- nat x0\nby"), binding_in("x0=0"))

    def test_no_world_though_its_goal_holds(self):
        chart = chart_in("odd x0 |- nat s(x0)\nuse 1\nas odd x0 |- nat x0 ; x0=x0\nsplit 0\nuse 1\nsplit 0\nuse 0\nuse 1\n"
                         "back 2 x0=x2")
        self.refused(NoWorld, atom_in("odd 0"), walked, NUMBERS, chart, binding_in("x0=0"))
        self.walks(NUMBERS, chart, "x0=s(0)", (0, [2]), (1, [2]), (2, [2]), (3, [1]), (4, [1]), (5, []))

    def test_changes_nothing(self):
        defs = definitions_in(NAT + "\n" + EVEN)
        for _ in range(2):
            self.refused(NoWorld, atom_in("even s(0)"), walked, defs, EVEN_IS_NAT, binding_in("x0=s(0)"))
        self.told(defs == definitions_in(NAT + "\n" + EVEN), True)
        self.told(walked(defs, EVEN_IS_NAT, binding_in("x0=0")), walked(NUMBERS, EVEN_IS_NAT, binding_in("x0=0")))


if __name__ == "__main__":
    unittest.main()

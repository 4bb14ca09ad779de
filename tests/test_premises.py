import unittest
from copy import deepcopy
from random import Random

from helper import EVEN, GREAT_TERMS, NAT, NOUGHT, NUMBERS, ROUND, Case, steps
from plaincharts import drawn_saying, drawn_step, plain_premises
from plainly import drawn_definitions
from ringproofs.charttexts import chart_in
from ringproofs.definitions import Definitions
from ringproofs.deftexts import definitions_in
from ringproofs.errors import BadStep
from ringproofs.premises import premises
from ringproofs.sayings import is_saying
from ringproofs.sayingtexts import saying_in, saying_text

SIX = "nat x0, nat x1, nat x2, nat x3, nat x4, nat x5"
SIX_KEPT = [(k, k, 0) for k in range(6)]


def step_in(text):
    return chart_in("|- nat 0\n" + text)[1][0]


class Steps(Case):
    def left(self, defs, saying, step, *wanted):
        """Wanted are, by turns, a text and its links."""
        defs = definitions_in(defs) if isinstance(defs, str) else defs
        told = premises(defs, saying_in(saying), step_in(step))
        self.told([(saying_text(premise), links) for premise, links in told], list(zip(wanted[::2], wanted[1::2])))
        self.assertTrue(all(is_saying(premise) for premise, _ in told))

    def bad(self, defs, saying, step):
        defs = definitions_in(defs) if isinstance(defs, str) else defs
        step = step_in(step)
        self.refused(BadStep, step, premises, defs, saying_in(saying), step)


class By(Steps):
    def test_the_goal_is_a_hyp(self):
        self.left(NUMBERS, "nat x0 |- nat x0", "by")
        self.left(NUMBERS, "odd x0, nat x0, less x0 s(x1) |- less x0 s(x1)", "by")
        self.left(NUMBERS, SIX + " |- nat x5", "by")
        self.left(NUMBERS, "none 0 |- none 0", "by")

    def test_it_is_none(self):
        for saying in ["|- nat 0", "nat x0 |- nat x1", "odd x0 |- nat x0", "nat x0 |- nat s(x0)", "nat s(x0) |- nat x0",
                       "less x0 x1 |- less x1 x0", "less x0 x0 |- less x0 x1", "nat x0 |- nat x0 x0", SIX + " |- nat x6"]:
            self.bad(NUMBERS, saying, "by")


class Use(Steps):
    def test_without_a_body(self):
        self.left(NUMBERS, "|- nat 0", "use 0")
        self.left(NUMBERS, "nat x3 |- less 0 s(s(x3))", "use 0")
        self.left("p x0", "nat x3 |- p f(x3,0)", "use 0")

    def test_with_a_body(self):
        self.left(NUMBERS, "nat x0 |- nat s(x0)", "use 1", "nat x0 |- nat x0", [(0, 0, 0)])
        self.left(NUMBERS, "|- nat s(s(0))", "use 1", "|- nat s(0)", [])
        self.left(NUMBERS, "odd x7, nat x0 |- even s(s(x7))", "use 1", "odd x7, nat x0 |- odd s(x7)", [(0, 0, 0), (1, 1, 0)])
        self.left(NUMBERS, "|- less s(x4) s(f(x1,0))", "use 1", "|- less x4 f(x1,0)", [])

    def test_a_body_of_three(self):
        self.left("q f(x0,x1) x2 if p x1, q x2 x0, p x1", "p x9, p 0 |- q f(x9,s(x1)) 0", "use 0",
                  "p x9, p 0 |- p s(x1)", [(0, 0, 0), (1, 1, 0)], "p x9, p 0 |- q 0 x9", [(0, 0, 0), (1, 1, 0)],
                  "p x9, p 0 |- p s(x1)", [(0, 0, 0), (1, 1, 0)])

    def test_the_rules_are_of_the_goals_word(self):
        defs = "nat 0\nodd s(x0) if nat x0\nnat s(x0) if odd x0\nodd 0\nnat x0"
        self.left(defs, "|- nat s(x5)", "use 1", "|- odd x5", [])
        self.left(defs, "|- nat s(x5)", "use 2")
        self.left(defs, "|- odd 0", "use 1")
        self.bad(defs, "|- nat s(x5)", "use 0")
        self.bad(defs, "|- nat s(x5)", "use 3")
        self.bad(defs, "|- odd 0", "use 0")

    def test_the_goal_may_be_a_hyp_too(self):
        self.left(NUMBERS, "nat s(x0) |- nat s(x0)", "use 1", "nat s(x0) |- nat x0", [(0, 0, 0)])

    def test_no_such_rule(self):
        for k in [2, 3, 10 ** 9]:
            self.bad(NUMBERS, "|- nat 0", f"use {k}")
        self.bad(NUMBERS, "|- none 0", "use 0")
        self.bad(Definitions(), "|- nat 0", "use 0")

    def test_another_sign(self):
        self.bad(NUMBERS, "|- nat s(0)", "use 0")
        self.bad(NUMBERS, "|- nat 0", "use 1")
        self.bad(NUMBERS, "|- nat f(0,0)", "use 1")
        self.bad(NUMBERS, "|- less 0 0", "use 0")
        self.bad(NUMBERS, "|- less s(0) 0", "use 1")
        self.bad(NUMBERS, "|- less 0 s(0)", "use 1")

    def test_it_would_put_something_in_the_saying(self):
        self.bad(NUMBERS, "nat x0 |- nat x0", "use 0")
        self.bad(NUMBERS, "nat x0 |- nat x0", "use 1")
        self.bad(NUMBERS, "|- less x0 s(x1)", "use 0")
        self.bad(NUMBERS, "|- less s(x0) x1", "use 1")
        self.bad(NUMBERS, "|- less 0 x0", "use 0")
        self.bad(NUMBERS, "|- nat x99", "use 1")
        self.bad("p x0 s(x1)", "|- p 0 x0", "use 0")

    def test_rules_of_variables_alone(self):
        self.left("p x0 x1 if p x1 x0", "|- p x5 x5", "use 0", "|- p x5 x5", [])
        self.left("p x0 x1 if p x1 x0", "|- p x5 s(x99)", "use 0", "|- p s(x99) x5", [])

    def test_another_number_of_terms(self):
        self.bad(NUMBERS, "|- nat 0 0", "use 0")
        self.bad(NUMBERS, "|- less 0", "use 0")
        self.bad("p x0 x1", "|- p x0", "use 0")
        self.bad("p x0", "|- p x0 x0", "use 0")

    def test_six_hyps(self):
        self.left(NUMBERS, SIX + " |- nat s(x9)", "use 1", SIX + " |- nat x9", SIX_KEPT)

    def test_great_terms(self):
        defs = definitions_in("p s(x0) if p x0\np f(x0,x1) if p x1, p x0")
        saying = ((("p", GREAT_TERMS[3]),), ("p", GREAT_TERMS[0]))
        self.told(premises(defs, saying, ("use", 0)), [((saying[0], ("p", steps(38))), [(0, 0, 0)])])


class Split(Steps):
    def test_nat(self):
        self.left(NUMBERS, "nat x0 |- even x0", "split 0", "|- even 0", [], "nat x1 |- even s(x1)", [(0, 0, 1)])
        self.left(NUMBERS, "nat 0 |- even x0", "split 0", "|- even x0", [])
        self.left(NUMBERS, "nat s(x3) |- even x3", "split 0", "nat x3 |- even x3", [(0, 0, 1)])
        self.left(NUMBERS, "nat f(x0,x0) |- even 0", "split 0")

    def test_even_and_less(self):
        self.left(NUMBERS, "nat x0, even x0 |- less x0 x2", "split 1",
                  "nat 0 |- less 0 x2", [(0, 0, 0)], "nat s(x3), odd x3 |- less s(x3) x2", [(0, 0, 0), (1, 1, 1)])
        self.left(NUMBERS, "less x0 x1 |- less x1 x0", "split 0",
                  "|- less s(x2) 0", [], "less x2 x3 |- less s(x3) s(x2)", [(0, 0, 1)])

    def test_in_the_order_of_the_rules(self):
        defs = "p s(x0) if q x0\nq 0\np 0\np x0 if p x0\np f(x0,x1)\np s(x0)"
        self.left(defs, "p x0 |- q x0", "split 0", "q x1 |- q s(x1)", [(0, 0, 1)], "|- q 0", [], "p x0 |- q x0", [(0, 0, 1)],
                  "|- q f(x1,x2)", [], "|- q s(x1)", [])

    def test_no_rules(self):
        self.left(NUMBERS, "none x0, nat x0 |- odd x0", "split 0")
        self.left(Definitions(), "nat x0 |- odd x0", "split 0")
        self.left(NUMBERS, "nat x0 x1 |- odd x0", "split 0")
        self.left("p x0 if q x0", "q x0 |- p x0", "split 0")

    def test_no_such_hyp(self):
        self.bad(NUMBERS, "|- nat 0", "split 0")
        self.bad(NUMBERS, "nat x0 |- nat 0", "split 1")
        self.bad(NUMBERS, "nat x0, odd x0 |- nat 0", "split 2")
        self.bad(NUMBERS, SIX + " |- nat 0", "split 6")
        self.bad(NUMBERS, "nat x0 |- nat 0", f"split {10 ** 9}")

    def test_new_variables_are_above_all_of_the_sayings(self):
        defs = "p f(x0,x1) if p x1"
        self.left(defs, "p x0 |- q x0", "split 0", "p x2 |- q f(x1,x2)", [(0, 0, 1)])
        self.left(defs, "p x3 |- q x0", "split 0", "p x5 |- q x0", [(0, 0, 1)])
        self.left(defs, "p x0, q x7 |- q x3", "split 0", "p x9, q x7 |- q x3", [(0, 0, 1), (1, 1, 0)])
        self.left(defs, "p x0 |- q x41", "split 0", "p x43 |- q x41", [(0, 0, 1)])

    def test_new_variables_by_both_terms(self):
        defs = "p f(x0,x1) f(x2,x3) if q x3 x2, q x1 x0"
        self.left(defs, "p x1 x0 |- q x0 x1", "split 0", "q x5 x4, q x3 x2 |- q f(x4,x5) f(x2,x3)", [(0, 0, 1), (0, 1, 1)])
        self.left(defs, "p x0 f(x7,x3) |- q x0 x3", "split 0", "q x3 x7, q x9 x8 |- q f(x8,x9) x3", [(0, 0, 1), (0, 1, 1)])

    def test_term_by_term_in_what_was_put_so_far(self):
        self.left("p 0 s(x0) if q x0", "p x0 x0 |- q x0", "split 0")
        self.left("p s(x0) s(x1) if q x0, q x1", "p x0 x0 |- r x0", "split 0", "q x1 |- r s(x1)", [(0, 0, 1)])
        self.left("p s(x0) x1 if q x0, q x1", "p x0 x0 |- r x0", "split 0", "q x1, q s(x1) |- r s(x1)", [(0, 0, 1), (0, 1, 1)])
        self.left("p x0 s(x1) if q x0, q x1", "p x0 x0 |- r x0", "split 0", "q s(x1), q x1 |- r s(x1)", [(0, 0, 1), (0, 1, 1)])
        self.left("p x0 0 if q x0", "p f(x0,x4) x4 |- r x4", "split 0", "q f(x0,0) |- r 0", [(0, 0, 1)])
        self.left("p f(x0,x1) f(x2,x3) if q x0, q x3", "p f(x1,x2) x2 |- r x2", "split 0",
                  "q x1, q x4 |- r f(x3,x4)", [(0, 0, 1), (0, 1, 1)])
        self.left("p s(x0) s(x1) if q x0, q x1", "p x0 s(x0) |- r x0", "split 0",
                  "q x1, q s(x1) |- r s(x1)", [(0, 0, 1), (0, 1, 1)])
        self.left("p s(x0) f(x1,x2) if q x2", "p x0 x0 |- r x0", "split 0")

    def test_what_is_put_is_put_in_all(self):
        self.left(NUMBERS, "odd s(x1), less x1 x0, nat x0 |- less s(x1) x2", "split 1",
                  "odd s(0), nat s(x3) |- less s(0) x2", [(0, 0, 0), (2, 1, 0)],
                  "odd s(s(x3)), less x3 x4, nat s(x4) |- less s(s(x3)) x2", [(0, 0, 0), (1, 1, 1), (2, 2, 0)])

    def test_a_body_in_the_place_of_the_hyp(self):
        defs = "p s(x0) if a x0, b x0, c x0"
        self.left(defs, "d x0, p s(x0), e x0 |- p x0", "split 1",
                  "d x0, a x0, b x0, c x0, e x0 |- p x0", [(0, 0, 0), (1, 1, 1), (1, 2, 1), (1, 3, 1), (2, 4, 0)])
        self.left("p 0", "d x0, p 0, e x0 |- p x0", "split 1", "d x0, e x0 |- p x0", [(0, 0, 0), (2, 1, 0)])

    def test_alike_atoms_of_a_body(self):
        self.left("p s(x0) if a x0, a x0, b x0", "p s(x0), d x0 |- q x0", "split 0",
                  "a x0, b x0, d x0 |- q x0", [(0, 0, 1), (0, 1, 1), (1, 2, 0)])

    def test_a_body_that_comes_to_be_another_hyp(self):
        self.left(NUMBERS, "nat x0, nat s(x0) |- odd x0", "split 1", "nat x0 |- odd x0", [(0, 0, 0), (1, 0, 1)])
        self.left(NUMBERS, "nat s(x0), nat x0 |- odd x0", "split 0", "nat x0 |- odd x0", [(0, 0, 1), (1, 0, 0)])
        defs = "p s(x0) if a x0, b x0, c x0"
        self.left(defs, "b x0, p s(x0), c x0 |- q x0", "split 1",
                  "b x0, a x0, c x0 |- q x0", [(0, 0, 0), (1, 0, 1), (1, 1, 1), (1, 2, 1), (2, 2, 0)])

    def test_a_body_that_comes_to_be_the_hyp_itself(self):
        self.left("p x0 if p x0", "p x0 |- q x0", "split 0", "p x0 |- q x0", [(0, 0, 1)])
        self.left("p x0 x1 if p x1 x0", "p x0 x1, p x1 x0 |- q x0", "split 0", "p x1 x0 |- q x0", [(0, 0, 1), (1, 0, 0)])

    def test_other_hyps_that_come_to_be_alike(self):
        self.left("p 0", "nat x0, p x0, nat 0, odd x0 |- q x0", "split 1",
                  "nat 0, odd 0 |- q 0", [(0, 0, 0), (2, 0, 0), (3, 1, 0)])

    def test_another_number_of_terms(self):
        self.left("p x0 x1", "p x0 |- q x0", "split 0")
        self.left("p x0", "p x0 x1 |- q x0", "split 0")

    def test_a_seventh_hyp(self):
        six = "p x0, a x0, b x0, c x0, d x0, e x0"
        self.bad("p x0 if g x0, h x0", six + " |- q x0", "split 0")
        self.left("p x0 if g x0", six + " |- q x0", "split 0", six.replace("p", "g") + " |- q x0",
                  [(0, 0, 1), *SIX_KEPT[1:]])
        self.left("p x0 if b x0, h x0", six + " |- q x0", "split 0", "b x0, h x0, a x0, c x0, d x0, e x0 |- q x0",
                  [(0, 0, 1), (0, 1, 1), (1, 2, 0), (2, 0, 0), (3, 3, 0), (4, 4, 0), (5, 5, 0)])
        self.left("p x0 if a x0, c x0, d x0", six + " |- q x0", "split 0", "a x0, c x0, d x0, b x0, e x0 |- q x0",
                  [(0, 0, 1), (0, 1, 1), (0, 2, 1), (1, 0, 0), (2, 3, 0), (3, 1, 0), (4, 2, 0), (5, 4, 0)])
        self.bad("p x0\np x0 if g x0, h x0\np x0", six + " |- q x0", "split 0")
        self.left("p 0\np s(x0) if g x0, h x0", "p 0, a x0, b x0, c x0, d x0, e x0 |- q x0", "split 0",
                  "a x0, b x0, c x0, d x0, e x0 |- q x0", [(k, k - 1, 0) for k in range(1, 6)])

    def test_a_variable_above_99(self):
        self.left(NUMBERS, "nat x98 |- odd 0", "split 0", "|- odd 0", [], "nat x99 |- odd 0", [(0, 0, 1)])
        self.bad(NUMBERS, "nat x99 |- odd 0", "split 0")
        self.bad(NUMBERS, "nat x0 |- odd x99", "split 0")
        self.bad(NUMBERS, "nat x0, odd x99 |- odd 0", "split 0")
        self.left(NUMBERS, "nat s(x99) |- odd 0", "split 0", "nat x99 |- odd 0", [(0, 0, 1)])
        self.left("p f(x0,x1) if p x1", "p x97 |- odd x97", "split 0", "p x99 |- odd f(x98,x99)", [(0, 0, 1)])
        self.bad("p f(x0,x1) if p x0", "p x98 |- odd x98", "split 0")
        self.bad("p s(x0) f(x1,x2)", "p x97 x0 |- odd x97", "split 0")
        self.left("p s(x0) f(x1,x2)", "p x96 x0 |- odd x96", "split 0", "|- odd s(x97)", [])

    def test_a_variable_above_99_that_stands_nowhere(self):
        self.bad("p s(x0)", "p x0, odd x99 |- odd 0", "split 0")
        self.bad("p f(x0,x1) if p x0", "p x0 |- odd x98", "split 0")
        self.bad("p f(x0,x1) if q x0", "p x0, odd x98 |- odd 0", "split 0")

    def test_a_variable_above_99_of_a_rule_that_does_not_fit(self):
        self.left("p s(x0) s(x1)\np 0 0", "p x99 0 |- odd x99", "split 0", "|- odd 0", [])
        self.left("p s(x0) f(x1,x2)\np 0 x0", "p x99 s(x0) |- odd x99", "split 0", "|- odd 0", [])
        self.left("p f(x0,x1) s(x2)", "p x99 x99 |- odd x99", "split 0")
        self.left("q s(x0)\np 0", "p x99 |- odd x99", "split 0", "|- odd 0", [])
        self.left("p s(x0) x1", "p x99 |- odd x99", "split 0")

    def test_nought_makes_no_variable(self):
        self.left("p 0\nq 0", "p x99 |- odd x99", "split 0", "|- odd 0", [])
        self.left("p x0 if q x0", "p x99 |- odd x99", "split 0", "q x99 |- odd x99", [(0, 0, 1)])

    def test_eight_rules_that_lead_round(self):
        self.left(ROUND, "g x0, a x0 |- c s(x0)", "split 0",
                  "a x1, a s(x1) |- c s(s(x1))", [(0, 0, 1), (1, 1, 0)], "a x0 |- c s(x0)", [(0, 0, 1), (1, 0, 0)])

    def test_great_terms(self):
        defs = definitions_in("p s(x0) if p x0\np f(x0,x1) if p x1, p x0")
        for term in GREAT_TERMS:
            saying = ((("p", term),), ("q", term))
            wanted = [(((("p", term[1]),), ("q", term)), [(0, 0, 1)])]
            self.told(premises(defs, saying, ("split", 0)), wanted)


class Cut(Steps):
    def test_ordinary(self):
        self.left(NUMBERS, "nat x0 |- even x0", "cut odd x0", "nat x0 |- odd x0", [(0, 0, 0)],
                  "nat x0, odd x0 |- even x0", [(0, 0, 0)])
        self.left(NUMBERS, "|- even 0", "cut odd s(0)", "|- odd s(0)", [], "odd s(0) |- even 0", [])
        self.left(NUMBERS, "nat x0, odd x3 |- even x7", "cut less x7 f(x0,x3)",
                  "nat x0, odd x3 |- less x7 f(x0,x3)", [(0, 0, 0), (1, 1, 0)],
                  "nat x0, odd x3, less x7 f(x0,x3) |- even x7", [(0, 0, 0), (1, 1, 0)])

    def test_an_atom_that_is_a_hyp(self):
        self.left(NUMBERS, "nat x0, odd x0 |- even x0", "cut nat x0", "nat x0, odd x0 |- nat x0", [(0, 0, 0), (1, 1, 0)],
                  "nat x0, odd x0 |- even x0", [(0, 0, 0), (1, 1, 0)])

    def test_an_atom_that_is_the_goal(self):
        self.left(NUMBERS, "nat x0 |- even x0", "cut even x0", "nat x0 |- even x0", [(0, 0, 0)],
                  "nat x0, even x0 |- even x0", [(0, 0, 0)])

    def test_another_variable(self):
        self.bad(NUMBERS, "nat x0 |- even x0", "cut odd x1")
        self.bad(NUMBERS, "nat x0 |- even x2", "cut less x0 x1")
        self.bad(NUMBERS, "nat x0 |- even x2", "cut less x1 x0")
        self.bad(NUMBERS, "nat x0 |- even x2", "cut odd f(x0,s(x99))")
        self.bad(NUMBERS, "|- even 0", "cut odd x0")

    def test_variables_of_the_goal_or_of_hyps_alone(self):
        self.left(NUMBERS, "nat 0 |- even x0", "cut odd x0", "nat 0 |- odd x0", [(0, 0, 0)],
                  "nat 0, odd x0 |- even x0", [(0, 0, 0)])
        self.left(NUMBERS, "nat x0 |- even 0", "cut odd x0", "nat x0 |- odd x0", [(0, 0, 0)],
                  "nat x0, odd x0 |- even 0", [(0, 0, 0)])

    def test_words_without_rules_and_other_numbers_of_terms(self):
        self.left(NUMBERS, "|- even 0", "cut none 0", "|- none 0", [], "none 0 |- even 0", [])
        self.left(NUMBERS, "|- even 0", "cut nat 0 0", "|- nat 0 0", [], "nat 0 0 |- even 0", [])

    def test_a_seventh_hyp(self):
        self.bad(NUMBERS, SIX + " |- even 0", "cut odd x0")
        self.left(NUMBERS, SIX + " |- even 0", "cut nat x3", SIX + " |- nat x3", SIX_KEPT, SIX + " |- even 0", SIX_KEPT)
        five = ", ".join(SIX.split(", ")[:5])
        self.left(NUMBERS, five + " |- even x5", "cut nat x5", five + " |- nat x5", SIX_KEPT[:5],
                  SIX + " |- even x5", SIX_KEPT[:5])


class As(Steps):
    def test_ordinary(self):
        self.left(NUMBERS, "nat x1 |- even s(x1)", "as nat x0 |- even s(x0) ; x0=x1", "nat x0 |- even s(x0)", [(0, 0, 0)])
        self.left(NUMBERS, "odd 0, nat s(x1), odd x1 |- even s(s(x1))", "as odd x5, nat s(x5) |- even s(s(x5)) ; x5=x1",
                  "odd x5, nat s(x5) |- even s(s(x5))", [(1, 1, 0), (2, 0, 0)])
        self.left(NUMBERS, "nat 0 |- even 0", "as |- even x3 ; x3=0", "|- even x3", [])
        self.left(NUMBERS, "|- even 0", "as |- even 0 ; -", "|- even 0", [])

    def test_one_hyp_on_to_several(self):
        self.left(NUMBERS, "nat 0, odd 0 |- even 0", "as nat x0, odd 0, nat x1, nat 0 |- even x1 ; x0=0 x1=0",
                  "nat x0, odd 0, nat x1, nat 0 |- even x1", [(0, 0, 0), (0, 2, 0), (0, 3, 0), (1, 1, 0)])

    def test_hyps_exchanged(self):
        self.left(NUMBERS, "nat x0, nat x1 |- odd 0", "as nat x0, nat x1 |- odd 0 ; x0=x1 x1=x0", "nat x0, nat x1 |- odd 0",
                  [(0, 1, 0), (1, 0, 0)])
        self.left(NUMBERS, "nat x0, nat x1 |- odd 0", "as nat x0, nat x1 |- odd 0 ; x0=x1 x1=x1", "nat x0, nat x1 |- odd 0",
                  [(1, 0, 0), (1, 1, 0)])

    def test_a_binding_that_does_not_do(self):
        for binding in ["-", "x0=x2", "x0=x1 x1=x1", "x1=x1", "x0=s(x1)", "x0=0"]:
            self.bad(NUMBERS, "nat x1 |- even s(x1)", "as nat x0 |- even s(x0) ; " + binding)
        self.bad(NUMBERS, "nat x1 |- even s(x1)", "as nat x0 |- odd s(x0) ; x0=x1")
        self.bad(NUMBERS, "nat x1 |- even s(x1)", "as nat x0, odd x0 |- even s(x0) ; x0=x1")
        self.bad(NUMBERS, "nat x1 |- even s(x1)", "as nat x0 |- even s(x0) ; x0=x1 x99=0")

    def test_six_hyps(self):
        self.left(NUMBERS, SIX + " |- odd 0", "as " + SIX + " |- odd 0 ; x0=x0 x1=x1 x2=x2 x3=x3 x4=x4 x5=x5",
                  SIX + " |- odd 0", SIX_KEPT)
        self.left(NUMBERS, "nat 0 |- odd 0", "as " + SIX + " |- odd 0 ; x0=0 x1=0 x2=0 x3=0 x4=0 x5=0",
                  SIX + " |- odd 0", [(0, k, 0) for k in range(6)])

    def test_variables_0_and_99(self):
        self.left(NUMBERS, "nat x99 |- odd x0", "as nat x0 |- odd x99 ; x0=x99 x99=x0", "nat x0 |- odd x99", [(0, 0, 0)])


class BackAndLean(Steps):
    def test_bare(self):
        for step in ["back 0 -", "back 29 x0=0", "lean nat -", "lean abc x0=s(x1) x99=0"]:
            self.left(NUMBERS, "nat x0 |- odd x1", step)
            self.left(NUMBERS, "|- odd 0", step)
            self.left(Definitions(), SIX + " |- odd 0", step)


class Promises(Steps):
    def test_as_worded(self):
        done = refused = 0
        for seed in range(600):
            draw = Random(seed)
            defs = drawn_definitions(seed % 200)
            saying = drawn_saying(draw, defs, draw.choice([[0, 1, 2], [0, 1], [0, 98], [97, 99]]), 5, 6)
            for _ in range(8):
                step = drawn_step(draw, defs, saying)
                wanted = plain_premises(defs, saying, step)
                if wanted is None:
                    refused += 1
                    self.refused(BadStep, step, premises, defs, saying, step)
                else:
                    done += 1
                    self.told(premises(defs, saying, step), wanted)
        self.assertGreater(done, 1500)
        self.assertGreater(refused, 1500)

    def test_own_lists(self):
        for step in ["split 0", "use 1", "cut nat x0", "as nat x0 |- nat s(x0) ; x0=x0", "back 0 -"]:
            self.asked_twice(premises, NUMBERS, saying_in("nat x0 |- nat s(x0)"), step_in(step))
        self.asked_twice(premises, definitions_in("p x0 if p x0, q x0, p x0"), saying_in("q x0 |- p x0"), ("use", 0))
        self.asked_twice(premises, NUMBERS, saying_in("nat x0 |- nat x0"), ("by",))

    def test_nothing_is_changed(self):
        defs = definitions_in("\n".join([NAT, EVEN]))
        saying = saying_in("nat x0, even x0 |- nat s(x0)")
        kept = deepcopy(saying)
        for step in [("split", 0), ("split", 1), ("use", 1), ("by",), ("cut", ("nat", 9)), ("use", 7)]:
            for _ in range(2):
                try:
                    premises(defs, saying, step)
                except BadStep as refusal:
                    self.told(refusal.what, step)
        self.told(saying, kept)
        self.told(defs == definitions_in("\n".join([NAT, EVEN])), True)

    def test_by_name(self):
        self.told(premises(step=("by",), saying=saying_in("nat x0 |- nat x0"), defs=NUMBERS), [])
        self.refused(BadStep, ("by",), premises, saying=saying_in("|- nat x0"), step=("by",), defs=NUMBERS)
        self.told(premises(NUMBERS, step=("use", 0), saying=((), ("nat", NOUGHT))), [])


if __name__ == "__main__":
    unittest.main()

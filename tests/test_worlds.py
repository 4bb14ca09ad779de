import unittest
from itertools import product
from random import Random

from helper import LESS, NOUGHT, NUMBERS, ROUND, Case, left_comb, steps
from plaincharts import drawn_saying, filled_atom
from plainly import all_heights, drawn_definitions
from ringproofs.definitions import Definitions
from ringproofs.deftexts import definitions_in
from ringproofs.rules import atom_put
from ringproofs.ruletexts import atom_in
from ringproofs.sayings import saying_variables
from ringproofs.sayingtexts import saying_in
from ringproofs.terms import is_binding, is_closed, size
from ringproofs.termtexts import binding_in, binding_text
from ringproofs.trees import trees
from ringproofs.worlds import bars, first_world, holds, worlds

# How many trees there are of at most 1 to 5 signs.
MANY = [1, 2, 4, 8, 17]


class Holds(Case):
    def test_numbers(self):
        for many in range(10):
            self.told(holds(NUMBERS, ("nat", steps(many))), True)
            self.told(holds(NUMBERS, ("even", steps(many))), many % 2 == 0)
            self.told(holds(NUMBERS, ("odd", steps(many))), many % 2 == 1)
            for other in range(10):
                self.told(holds(NUMBERS, ("less", steps(many), steps(other))), many < other)

    def test_not_so(self):
        for text in ["nat f(0,0)", "nat s(f(0,0))", "none 0", "nat 0 0", "less 0", "odd 0"]:
            self.told(holds(NUMBERS, atom_in(text)), False)
        self.told(holds(Definitions(), ("nat", NOUGHT)), False)

    def test_rules_that_lead_round(self):
        defs = definitions_in(ROUND)
        self.told(holds(defs, ("b", steps(10))), True)
        self.told(holds(defs, ("b", ("s", left_comb(4)))), False)
        self.told(holds(definitions_in("p x0 if p x0"), ("p", NOUGHT)), False)
        self.told(holds(definitions_in("p x0 if p x0\np 0"), ("p", NOUGHT)), True)

    def test_by_name(self):
        self.told(holds(atom=("nat", NOUGHT), defs=NUMBERS), True)


class Bars(Case):
    def so(self, saying, world, wanted, defs=NUMBERS):
        self.told(bars(defs, saying_in(saying), binding_in(world)), wanted)

    def test_hyps_and_goal(self):
        self.so("nat x0 |- even x0", "x0=0", False)
        self.so("nat x0 |- even x0", "x0=s(0)", True)
        self.so("even x0 |- odd x0", "x0=s(0)", False)
        self.so("even x0 |- odd x0", "x0=0", True)
        self.so("even x0, odd x0 |- none x0", "x0=0", False)
        self.so("odd x0, even x0 |- none x0", "x0=0", False)
        self.so("less x0 x1, nat x1 |- less x1 x0", "x0=0 x1=s(s(0))", True)
        self.so("less x0 x1, nat x1 |- less x1 x0", "x0=s(0) x1=s(0)", False)

    def test_no_hyps(self):
        self.so("|- nat x0", "x0=s(s(0))", False)
        self.so("|- nat x0", "x0=f(0,0)", True)
        self.so("|- even x0", "x0=s(0)", True)

    def test_no_variables(self):
        self.so("|- nat 0", "-", False)
        self.so("|- odd 0", "-", True)
        self.so("odd 0 |- odd 0", "-", False)
        self.so("even 0 |- odd 0", "-", True)

    def test_a_goal_that_is_a_hyp(self):
        for world in worlds(saying_in("even x0 |- even x0"), 5):
            self.told(bars(NUMBERS, saying_in("even x0 |- even x0"), world), False)

    def test_variables_0_and_99(self):
        self.so("nat x0, nat x99 |- less x0 x99", "x0=0 x99=s(0)", False)
        self.so("nat x0, nat x99 |- less x0 x99", "x0=s(0) x99=0", True)

    def test_six_hyps_and_eleven_signs(self):
        saying = "nat x0, even x0, nat s(x1), odd x1, less x2 s(x2), nat x3 |- nat f(x0,x1)"
        ten = "s(" * 10 + "0" + ")" * 10
        nine = "s(" * 9 + "0" + ")" * 9
        self.so(saying, f"x0={ten} x1={nine} x2={ten} x3={ten}", True)
        self.so(saying, f"x0={nine} x1={nine} x2={ten} x3={ten}", False)
        self.so(saying, f"x0={ten} x1={ten} x2={ten} x3={ten}", False)
        self.so(saying, f"x0={ten} x1={nine} x2={ten} x3=f(f(0,f(0,0)),f(0,f(0,0)))", False)

    def test_rules_that_lead_round(self):
        defs = definitions_in(ROUND)
        self.so("g x0 |- a x0", "x0=s(0)", False, defs)
        self.so("a x0 |- h x0", "x0=s(s(0))", True, defs)
        self.so("a f(x0,x0) |- b x0", "x0=f(0,0)", False, defs)

    def test_by_name(self):
        self.told(bars(world=((0, steps(1)),), saying=saying_in("nat x0 |- even x0"), defs=NUMBERS), True)


class Worlds(Case):
    def test_how_many(self):
        for most, many in enumerate(MANY, 1):
            for text, variables in [("|- nat 0", 0), ("nat x0 |- nat x0", 1), ("|- nat f(x99,s(x99))", 1),
                                    ("nat x7 |- less x7 x3", 2), ("less x0 x1, less x1 x0 |- nat 0", 2)]:
                self.assertEqual(len(worlds(saying_in(text), most)), many ** variables)

    def test_in_their_order(self):
        self.told([binding_text(world) for world in worlds(saying_in("nat x4 |- nat s(x4)"), 3)],
                  ["x4=0", "x4=s(0)", "x4=f(0,0)", "x4=s(s(0))"])
        self.told([binding_text(world) for world in worlds(saying_in("nat x99 |- nat x0"), 2)],
                  ["x0=0 x99=0", "x0=0 x99=s(0)", "x0=s(0) x99=0", "x0=s(0) x99=s(0)"])
        self.told(worlds(saying_in("|- nat x0"), 1), [((0, NOUGHT),)])

    def test_as_the_lists_of_their_places_rise(self):
        saying = saying_in("less x3 x10 |- less x10 x3")
        for most in range(1, 6):
            small = trees(most)
            self.told(worlds(saying, most), [((3, left), (10, right)) for left, right in product(small, small)])

    def test_no_variables(self):
        for most in range(1, 6):
            self.told(worlds(saying_in("nat 0 |- nat s(0)"), most), [()])

    def test_each_is_a_world(self):
        found = worlds(saying_in("nat x0, odd x99 |- less x0 x99"), 5)
        for world in found:
            self.assertTrue(is_binding(world))
            self.assertEqual([variable for variable, _ in world], [0, 99])
            self.assertTrue(all(is_closed(term) and size(term) <= 5 for _, term in world))
        self.assertEqual(len(set(found)), len(found))

    def test_six_hyps(self):
        saying = saying_in("nat x0, nat x1, even x0, even x1, less x0 x1, less x1 x0 |- odd x0")
        self.assertEqual(len(worlds(saying, 5)), 289)

    def test_own_lists(self):
        self.asked_twice(worlds, saying_in("less x0 x1 |- nat 0"), 3)
        self.asked_twice(worlds, saying_in("|- nat 0"), 3)

    def test_by_name(self):
        self.told(worlds(most=1, saying=saying_in("|- nat x5")), [((5, NOUGHT),)])


class FirstWorld(Case):
    def so(self, saying, most, wanted, defs=NUMBERS):
        world = first_world(defs, saying_in(saying), most)
        self.told(world if world is None else binding_text(world), wanted)

    def test_numbers(self):
        self.so("even x0 |- nat x0", 5, None)
        self.so("nat x0 |- less x0 s(x0)", 5, None)
        self.so("less x0 x1 |- less x0 s(x1)", 5, None)
        self.so("nat x0 |- even x0", 1, None)
        self.so("nat x0 |- even x0", 2, "x0=s(0)")
        self.so("nat x0 |- even x0", 5, "x0=s(0)")
        self.so("odd x0 |- even s(s(s(x0)))", 5, None)
        self.so("even x0 |- less x0 s(s(0))", 2, None)
        self.so("even x0 |- less x0 s(s(0))", 3, "x0=s(s(0))")

    def test_the_first_of_several(self):
        self.so("nat x0, nat x1 |- less x0 x1", 4, "x0=0 x1=0")
        self.so("nat x1, nat x0 |- less s(x1) x0", 4, "x0=0 x1=0")
        self.so("nat x0, nat x1 |- less x0 s(x1)", 4, "x0=s(0) x1=0")
        self.so("nat x0, nat x1 |- less x1 s(x0)", 4, "x0=0 x1=s(0)")
        self.so("|- nat x0", 4, "x0=f(0,0)")
        self.so("less x0 x1, less x1 x2 |- even x1", 3, "x0=0 x1=s(0) x2=s(s(0))")

    def test_no_variables(self):
        self.so("|- nat 0", 5, None)
        self.so("|- nat s(s(0))", 1, None)
        self.so("|- odd 0", 1, "-")
        self.so("nat 0 |- odd 0", 5, "-")
        self.so("odd 0 |- odd s(s(0))", 5, None)
        self.told(first_world(NUMBERS, saying_in("|- odd 0"), 3), ())

    def test_a_goal_that_is_a_hyp(self):
        self.so("nat x0, less x0 x1 |- less x0 x1", 5, None)

    def test_words_without_rules(self):
        self.so("none x0 |- odd x0", 5, None)
        self.so("nat x0 |- none x0", 5, "x0=0")
        self.told(first_world(Definitions(), saying_in("|- nat 0"), 5), ())
        self.told(first_world(Definitions(), saying_in("nat 0 |- nat s(0)"), 5), None)

    def test_rules_that_lead_round(self):
        defs = definitions_in(ROUND)
        self.so("a x0, b x1, c x0, d x1, e x0, g x1 |- a f(x0,x1)", 2, "x0=0 x1=0", defs)
        self.so("a x0, b x1, c x0, d x1, e x0, g x1 |- a x0", 5, None, defs)

    def test_as_worded(self):
        barred = 0
        for seed in range(60):
            draw = Random(seed)
            defs = drawn_definitions(seed)
            saying = drawn_saying(draw, defs, [0, 99], 2, 3)
            variables = saying_variables(saying)
            wanted = None
            for chosen in product(trees(3), repeat=len(variables)):
                table = dict(zip(variables, chosen))
                atoms = [filled_atom(atom, table) for atom in (*saying[0], saying[1])]
                hold = [atom in all_heights(defs, atom) for atom in atoms]
                if all(hold[:-1]) and not hold[-1]:
                    wanted = tuple(table.items())
                    barred += 1
                    break
            self.told(first_world(defs, saying, 3), wanted)
        self.assertTrue(10 < barred < 50)

    def test_it_bars_and_none_ahead_does(self):
        defs = definitions_in(LESS)
        saying = saying_in("less x0 x1 |- less x1 s(s(x0))")
        found = worlds(saying, 5)
        world = first_world(defs, saying, 5)
        self.told(binding_text(world), "x0=0 x1=s(s(0))")
        self.told([bars(defs, saying, each) for each in found[:found.index(world) + 1]],
                  [False] * found.index(world) + [True])
        self.told(atom_put(saying[1], world), atom_in("less s(s(0)) s(s(0))"))

    def test_asking_changes_nothing(self):
        defs = definitions_in("nat 0")
        for _ in range(3):
            self.told(first_world(defs, saying_in("|- nat s(x0)"), 2), ((0, NOUGHT),))
        self.told(defs == definitions_in("nat 0"), True)
        self.told(defs.words(), ["nat"])

    def test_by_name(self):
        self.told(first_world(most=2, saying=saying_in("nat x0 |- even x0"), defs=NUMBERS), ((0, steps(1)),))


if __name__ == "__main__":
    unittest.main()

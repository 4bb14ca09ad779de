import unittest
from itertools import product
from random import Random

from helper import GREAT_TERMS, NOUGHT, Case, odd_things, steps, ten_deep
from plaincharts import drawn_saying, filled_saying, plain_comes_of
from plainly import drawn_definitions
from ringproofs.sayings import bindings, comes_of, is_saying, saying_put, saying_variables
from ringproofs.sayingtexts import saying_in, saying_text
from ringproofs.terms import is_binding
from ringproofs.termtexts import binding_in, binding_text

GOAL = ("nat", 0)
SIX = tuple(("nat", variable) for variable in range(6))


class IsSaying(Case):
    def test_so(self):
        for hyps in [(), (GOAL,), (("even", 0),), (("less", 0, ("s", 1)), ("less", ("s", 1), 0)), SIX, SIX[:5],
                     (("nat", 0), ("nat", ("s", 0)), ("even", 0)), (("nat", 0), ("nat", 0, 0)), (("nat", 99),)]:
            self.told(is_saying((hyps, GOAL)), True)
            self.told(is_saying((hyps, ("less", NOUGHT, ("f", 0, 99)))), True)

    def test_great_terms(self):
        hyps = tuple(("less", term, 0) for term in GREAT_TERMS)
        self.told(is_saying((hyps, ("less", GREAT_TERMS[0], GREAT_TERMS[3]))), True)
        self.told(is_saying(((*hyps, hyps[2]), GOAL)), False)
        self.told(is_saying(((("nat", steps(39)), ("nat", steps(38))), GOAL)), True)

    def test_how_many_hyps(self):
        for many in range(10):
            hyps = tuple(("nat", variable) for variable in range(many))
            self.told(is_saying((hyps, GOAL)), many <= 6)

    def test_alike_hyps(self):
        for hyps in [(GOAL, GOAL), (GOAL, ("odd", 0), GOAL), (("odd", 0), GOAL, GOAL), (*SIX[:5], SIX[0]),
                     (("less", 0, ("s", 1)), ("less", 0, ("s", 1)))]:
            self.told(is_saying((hyps, GOAL)), False)

    def test_hyps_alike_but_for_something(self):
        for hyp in [("nat", 1), ("odd", 0), ("nat", NOUGHT), ("nat", ("s", 0)), ("nat", 0, 0)]:
            self.told(is_saying(((("nat", 0), hyp), GOAL)), True)

    def test_wrong_kinds(self):
        for thing in [[(), GOAL], ((), GOAL, ()), ((),), (GOAL,), (), (GOAL, ()), ([], GOAL), ([GOAL], GOAL), (GOAL, GOAL),
                      ((["nat", 0],), GOAL), ((), ["nat", 0]), ((GOAL, ()), GOAL), ((), ()), ((), None), (None, GOAL),
                      ((None,), GOAL), ((("nat",),), GOAL), ((), ("nat",)), ((), ("if", 0)), ((("if", 0),), GOAL),
                      ((), ("nat", True)), ((("nat", True),), GOAL), ((("nat", False), ("nat", 0)), GOAL), ((), ("nat", 100)),
                      ((("nat", -1),), GOAL), ((), ("nat", 0, 0, 0)), ((), ("nat", ["0"])), ((), "nat x0"), ("", GOAL),
                      "|- nat x0", None, True, 0, ((("s", 0),), 0), ({}, GOAL), ((), (GOAL,)), (((GOAL,),), GOAL)]:
            with self.subTest(repr(thing)):
                self.told(is_saying(thing), False)

    def test_odd_things(self):
        for thing in odd_things():
            self.told(is_saying(thing), False)
            self.told(is_saying((thing, GOAL)), thing == ())
            self.told(is_saying(((), thing)), False)
            self.told(is_saying(((GOAL, thing), GOAL)), False)
        self.told(is_saying(ten_deep(lambda inner: (inner, GOAL), ())), False)

    def test_by_name(self):
        self.told(is_saying(thing=((), GOAL)), True)


class SayingVariables(Case):
    def test_ordinary(self):
        for text, wanted in [("|- nat 0", []), ("nat 0 |- nat s(0)", []), ("|- nat x7", [7]), ("nat x7 |- nat 0", [7]),
                             ("nat x99, nat x10 |- less x9 x0", [0, 9, 10, 99]), ("nat x2 |- nat s(x2)", [2]),
                             ("less x3 f(x2,x2), nat x1 |- nat x3", [1, 2, 3])]:
            self.told(saying_variables(saying_in(text)), wanted)

    def test_six_hyps(self):
        self.told(saying_variables((SIX[::-1], ("nat", 40))), [0, 1, 2, 3, 4, 5, 40])

    def test_own_lists(self):
        self.asked_twice(saying_variables, saying_in("nat x9 |- nat x2"))
        self.asked_twice(saying_variables, saying_in("|- nat 0"))

    def test_by_name(self):
        self.told(saying_variables(saying=((), ("nat", 3))), [3])


class SayingPut(Case):
    def so(self, saying, binding, wanted):
        self.told(saying_put(saying_in(saying), binding_in(binding)), saying_in(wanted))

    def test_ordinary(self):
        self.so("nat x0, even x1 |- less x0 x1", "x0=s(x1) x1=0", "nat s(x1), even 0 |- less s(x1) 0")
        self.so("nat x0, even x1 |- less x0 x1", "x1=x0", "nat x0, even x0 |- less x0 x0")
        self.so("nat x0, even x1 |- less x0 x1", "-", "nat x0, even x1 |- less x0 x1")
        self.so("|- nat f(x0,x99)", "x0=x99 x99=x0", "|- nat f(x99,x0)")
        self.so("nat 0 |- nat 0", "x5=0", "nat 0 |- nat 0")

    def test_of_alike_hyps_the_first_is_kept(self):
        self.so("nat x0, even x0, nat x1 |- nat x1", "x1=x0", "nat x0, even x0 |- nat x0")
        self.so("nat x0, even x0, nat x1 |- nat x1", "x0=x1", "nat x1, even x1 |- nat x1")
        self.so("nat x0, nat x1, nat x2, odd x0 |- nat 0", "x0=0 x1=0 x2=0", "nat 0, odd 0 |- nat 0")
        self.so("odd x0, nat s(x1), nat x0 |- nat x0", "x0=s(x1)", "odd s(x1), nat s(x1) |- nat s(x1)")

    def test_the_goal_stays_though_a_hyp_is_alike(self):
        self.so("nat x0 |- nat x1", "x1=x0", "nat x0 |- nat x0")

    def test_six_hyps(self):
        self.told(saying_put((SIX, GOAL), tuple((variable, NOUGHT) for variable in range(6))),
                  ((("nat", NOUGHT),), ("nat", NOUGHT)))
        self.told(saying_put((SIX, GOAL), ((5, 4),)), (SIX[:5], GOAL))

    def test_as_worded(self):
        for seed in range(200):
            draw = Random(seed)
            defs = drawn_definitions(seed)
            saying = drawn_saying(draw, defs, [0, 1, 2], 4, 6)
            table = {variable: draw.choice([0, 1, NOUGHT, ("s", 2)]) for variable in range(3)}
            self.told(saying_put(saying, tuple(table.items())), filled_saying(saying, table))

    def test_by_name(self):
        self.told(saying_put(binding=((0, NOUGHT),), saying=((), GOAL)), ((), ("nat", NOUGHT)))


class ComesOf(Case):
    def so(self, saying, other, binding, wanted):
        self.told(comes_of(saying_in(saying), saying_in(other), binding_in(binding)), wanted)

    def test_ordinary(self):
        self.so("nat x1 |- even s(x1)", "nat x0 |- even s(x0)", "x0=x1", True)
        self.so("nat s(x1) |- even s(s(x1))", "nat x0 |- even s(x0)", "x0=s(x1)", True)
        self.so("nat x1, odd x1 |- even s(x1)", "nat x0 |- even s(x0)", "x0=x1", True)
        self.so("nat x1 |- even s(x1)", "|- even s(x0)", "x0=x1", True)
        self.so("nat 0 |- even 0", "nat x0 |- even x0", "x0=0", True)

    def test_itself(self):
        for text, binding in [("nat x0 |- nat x0", "x0=x0"), ("|- nat 0", "-"), ("less x9 x3 |- nat x3", "x3=x3 x9=x9")]:
            self.so(text, text, binding, True)

    def test_not_so(self):
        self.so("nat x1 |- even s(x1)", "nat x0 |- even s(x0)", "x0=x2", False)
        self.so("nat x1 |- even x1", "nat x0 |- even s(x0)", "x0=x1", False)
        self.so("odd x1 |- even s(x1)", "nat x0 |- even s(x0)", "x0=x1", False)
        self.so("|- even s(x1)", "nat x0 |- even s(x0)", "x0=x1", False)
        self.so("nat x2 |- even s(x1)", "nat x0 |- even s(x0)", "x0=x1", False)
        self.so("even x1 |- nat x1", "nat x0 |- even x0", "x0=x1", False)
        self.so("nat x1 |- even x1", "nat x0, odd x0 |- even x0", "x0=x1", False)

    def test_a_pair_out_more_or_another_term(self):
        saying, other = "less x5 x6, nat x7 |- less x5 s(x6)", "less x0 x1, nat x2 |- less x0 s(x1)"
        self.so(saying, other, "x0=x5 x1=x6 x2=x7", True)
        self.so(saying, other, "x0=x5 x1=x6", False)
        self.so(saying, other, "x1=x6 x2=x7", False)
        self.so(saying, other, "-", False)
        self.so(saying, other, "x0=x5 x1=x6 x2=x7 x3=x7", False)
        self.so(saying, other, "x0=x5 x1=x6 x2=x7 x99=0", False)
        self.so(saying, other, "x0=x6 x1=x6 x2=x7", False)
        self.so(saying, other, "x0=x5 x1=x5 x2=x7", False)
        self.so(saying, other, "x0=x5 x1=x6 x2=x6", False)
        self.so(saying, other, "x0=x5 x1=s(x6) x2=x7", False)
        self.so(saying, other, "x0=x5 x1=x6 x3=x7", False)

    def test_a_pair_more_of_a_saying_without_variables(self):
        self.so("nat 0 |- nat 0", "|- nat 0", "-", True)
        self.so("nat 0 |- nat 0", "|- nat 0", "x0=0", False)
        self.so("nat x0 |- nat 0", "|- nat 0", "x0=x0", False)

    def test_a_pair_out_though_the_variable_stays(self):
        # Put or not, x1 is x1: but the BINDING is of just the other one's variables.
        self.so("nat x0, nat x1 |- less x0 x1", "nat x0, nat x1 |- less x0 x1", "x0=x0", False)
        self.so("nat x0, nat x1 |- less x0 x1", "nat x0, nat x1 |- less x0 x1", "x0=x0 x1=x1", True)

    def test_hyps_that_come_to_be_alike(self):
        self.so("nat x0 |- less x0 x0", "nat x0, nat x1 |- less x0 x1", "x0=x0 x1=x0", True)
        self.so("nat 0 |- nat 0", "nat x0, nat x1, nat x2 |- nat x1", "x0=0 x1=0 x2=0", True)

    def test_all_at_once(self):
        self.so("less x1 x0 |- less x0 x1", "less x0 x1 |- less x1 x0", "x0=x1 x1=x0", True)
        self.so("less x0 x1 |- less x1 x0", "less x1 x0 |- less x0 x1", "x0=x1 x1=x0", True)
        self.so("less x0 x1 |- less x0 x1", "less x0 x1 |- less x1 x0", "x0=x1 x1=x0", False)

    def test_variables_0_and_99(self):
        self.so("nat x99 |- nat s(x0)", "nat x0 |- nat s(x99)", "x0=x99 x99=x0", True)

    def test_by_name(self):
        self.told(comes_of(binding=((0, 1),), other=((), GOAL), saying=((), ("nat", 1))), True)
        self.told(comes_of(binding=((0, 1),), saying=((), GOAL), other=((), ("nat", 1))), False)


def terms_in(saying):
    """All TERMs that stand in a saying, as parts too."""
    found, todo = [], [term for atom in (*saying[0], saying[1]) for term in atom[1:]]
    while todo:
        term = todo.pop()
        if term not in found:
            found.append(term)
            todo.extend([] if isinstance(term, int) else term[1:])
    return found


def plain_bindings(saying, other):
    """All BINDINGs of the other's variables to TERMs that stand in the saying, one by one."""
    variables = saying_variables(other)
    ways = [tuple(zip(variables, chosen)) for chosen in product(terms_in(saying), repeat=len(variables))]
    return sorted((way for way in ways if plain_comes_of(saying, other, way)), key=binding_text)


class Bindings(Case):
    def so(self, saying, other, wanted):
        told = bindings(saying_in(saying), saying_in(other))
        self.told([binding_text(binding) for binding in told], wanted)

    def test_one(self):
        self.so("nat x1 |- even s(x1)", "nat x0 |- even s(x0)", ["x0=x1"])
        self.so("nat s(x1), odd x1 |- even s(s(x1))", "nat x0 |- even s(x0)", ["x0=s(x1)"])
        self.so("|- nat 0", "|- nat 0", ["-"])
        self.so("nat x0 |- nat 0", "|- nat x9", ["x9=0"])
        self.so("|- less x1 x0", "|- less x0 x1", ["x0=x1 x1=x0"])
        self.so("|- less f(x0,s(x1)) 0", "|- less f(x5,s(x4)) x3", ["x3=0 x4=x1 x5=x0"])

    def test_none(self):
        self.so("nat x1 |- even x1", "nat x0 |- even s(x0)", [])
        self.so("nat x1 |- even s(x1)", "nat x0 |- even 0", [])
        self.so("|- nat 0", "nat x0 |- nat 0", [])
        self.so("odd x1 |- nat 0", "nat x0 |- nat 0", [])
        self.so("|- less x0 x1", "|- less x0 x0", [])
        self.so("|- less 0 s(0)", "|- less x0 x0", [])
        self.so("nat x0 |- nat x1", "nat x0 |- nat x0", [])
        self.so("|- nat x0", "|- odd x0", [])
        self.so("|- nat x0", "|- nat x0 x1", [])
        self.so("|- nat x0", "|- nat 0", [])
        self.so("|- nat 0", "|- nat s(x0)", [])
        self.so("|- nat f(0,0)", "|- nat s(x0)", [])
        self.so("nat x0 x0 |- odd 0", "nat x0 |- odd 0", [])

    def test_hyps_with_variables_that_the_goal_has_not(self):
        self.so("nat 0, nat s(0), nat x3 |- odd 0", "nat x7 |- odd 0", ["x7=0", "x7=s(0)", "x7=x3"])
        self.so("nat x1, nat x2 |- odd x1", "nat x7 |- odd x0", ["x0=x1 x7=x1", "x0=x1 x7=x2"])
        self.so("less x1 x2, less x2 x3 |- less x1 x3", "less x1 x2, less x2 x3 |- less x1 x3", ["x1=x1 x2=x2 x3=x3"])
        self.so("less x1 x2, less x1 x4, less x2 x3, less x4 x3 |- less x1 x3", "less x1 x2, less x2 x3 |- less x1 x3",
                ["x1=x1 x2=x2 x3=x3", "x1=x1 x2=x4 x3=x3"])

    def test_rising_by_their_texts(self):
        self.so("nat x10, nat x2, nat x9, nat 0, nat s(x1), nat f(x0,x0) |- odd 0", "nat x0 |- odd 0",
                ["x0=0", "x0=f(x0,x0)", "x0=s(x1)", "x0=x10", "x0=x2", "x0=x9"])
        self.so("nat x1, nat x2 |- odd 0", "nat x2, nat x10 |- odd 0",
                ["x2=x1 x10=x1", "x2=x1 x10=x2", "x2=x2 x10=x1", "x2=x2 x10=x2"])

    def test_itself(self):
        for text in ["nat x0 |- nat x0", "less x3 x9, nat x3 |- odd f(x3,x9)", "|- odd s(x99)"]:
            saying = saying_in(text)
            self.told(bindings(saying, saying), [tuple((variable, variable) for variable in saying_variables(saying))])

    def test_six_hyps(self):
        found = bindings((SIX[:6], ("odd", 7)), (SIX[:4], ("odd", 9)))
        self.assertEqual(len(found), 6 ** 4)
        self.assertEqual(found, sorted(found, key=binding_text))
        self.assertEqual(len(set(found)), 6 ** 4)
        self.told(bindings((SIX, ("odd", 0)), ((*SIX[:5], ("nat", NOUGHT)), ("odd", 0))), [])

    def test_great_terms(self):
        for term in GREAT_TERMS:
            self.told(bindings(((("nat", term),), ("odd", term)), ((("nat", 0),), ("odd", 0))), [((0, term),)])
            self.told(bindings(((), ("less", term, ("s", term))), ((), ("less", 0, ("s", 0)))), [((0, term),)])
            self.told(bindings(((), ("less", term, term)), ((), ("less", 0, ("s", 0)))), [])

    def test_as_worded(self):
        told = 0
        for seed in range(250):
            draw = Random(seed)
            defs = drawn_definitions(seed % 50)
            saying = drawn_saying(draw, defs, [0, 1, 5], 2, 4)
            other = drawn_saying(draw, defs, [0, 1, 3], 2, 2)
            if draw.random() < 0.5:
                other = (other[0], filled_saying(((), saying[1]), {0: 3, 5: 1})[1])
            found = bindings(saying, other)
            self.told(found, plain_bindings(saying, other))
            told += len(found)
            for binding in found:
                self.assertTrue(is_binding(binding))
                self.told(comes_of(saying, other, binding), True)
        self.assertGreater(told, 50)

    def test_nothing_is_changed(self):
        saying = saying_in("nat x1, nat x2 |- odd x1")
        bindings(saying, saying)
        self.told(saying_text(saying), "nat x1, nat x2 |- odd x1")

    def test_own_lists(self):
        self.asked_twice(bindings, saying_in("nat x1, nat x2 |- odd 0"), saying_in("nat x1 |- odd 0"))
        self.asked_twice(bindings, saying_in("|- nat 0"), saying_in("|- odd 0"))

    def test_by_name(self):
        self.told(bindings(other=((), GOAL), saying=((), ("nat", 1))), [((0, 1),)])


if __name__ == "__main__":
    unittest.main()

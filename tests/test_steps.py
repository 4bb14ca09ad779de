import unittest

from helper import GREAT_TERMS, NOUGHT, Case, odd_things
from ringproofs.sayingtexts import saying_in
from ringproofs.steps import is_step

ATOM = ("nat", 0)
SAYING = saying_in("nat x0, even x1 |- nat f(x0,x1)")
BINDING = ((0, ("s", 1)), (2, NOUGHT))
STEPS = [("by",), ("split", 0), ("split", 7), ("use", 0), ("use", 10 ** 9), ("back", 0, ()), ("back", 29, BINDING),
         ("cut", ATOM), ("cut", ("less", NOUGHT, 99)), ("as", SAYING, BINDING), ("as", ((), ATOM), ()), ("lean", "nat", ()),
         ("lean", "abcdef", BINDING), ("split", 10 ** 9), ("back", 10 ** 9, ()), ("lean", "by", ())]
NO_PLACES = [-1, -7, True, False, None, "0", "", NOUGHT, (), [], [0], (0,), ("s", 0)]
NO_BINDINGS = [[], list(BINDING), BINDING[::-1], (BINDING[0], BINDING[0]), ((0,),), ((0, NOUGHT, NOUGHT),), (0, NOUGHT),
               ([0, NOUGHT],), ((100, NOUGHT),), ((-1, NOUGHT),), ((True, NOUGHT),), ((0, True),), ((0, ["0"]),), ((0, 100),),
               None, "", "-", "x0=0", 0, True, NOUGHT, ((),)]
NO_ATOMS = [["nat", 0], ("nat",), ("nat", 0, 0, 0), ("if", 0), ("nat", True), ("nat", 100), ("nat", -1), ("nat", ["0"]), "nat x0",
            (), None, 0, ("Nat", 0), (ATOM,), ("by",), NOUGHT]
NO_SAYINGS = [list(SAYING), SAYING[:1], ([], ATOM), ([ATOM], ATOM), ((ATOM, ATOM), ATOM), ((), ["nat", 0]), ((), ("if", 0)), ATOM,
              (), None, "|- nat x0", (tuple(("nat", k) for k in range(7)), ATOM), (ATOM, ATOM)]
NO_NAMES = ["if", "", "Nat", "abcdefg", "nat ", "x0", 0, None, True, ("nat",), ["nat"], "n-t"]


class IsStep(Case):
    def no(self, thing):
        with self.subTest(repr(thing)[:80]):
            self.told(is_step(thing), False)

    def test_so(self):
        for step in STEPS:
            self.told(is_step(step), True)

    def test_great_terms(self):
        for term in GREAT_TERMS:
            self.told(is_step(("cut", ("nat", term))), True)
            self.told(is_step(("back", 0, ((0, term),))), True)
            self.told(is_step(("as", ((("nat", term),), ("odd", term)), ((0, term),))), True)

    def test_lists_for_tuples(self):
        for step in STEPS:
            self.no(list(step))

    def test_parts_out_or_more(self):
        for step in STEPS:
            self.no(step[:-1])
            self.no(step[1:])
            self.no((*step, 0))
            self.no((*step, ()))
            self.no((*step, None))
            self.no((step,))

    def test_other_words(self):
        for word in ["", "By", "by ", " by", "BACK", "splits", "is", "if", "nat", None, 0, True, ("by",), ["by"], ()]:
            self.no((word,))
            self.no((word, 0))
            self.no((word, ATOM))
            self.no((word, 0, ()))
            self.no((word, SAYING, BINDING))
            self.no((word, "nat", ()))

    def test_parts_of_another_step(self):
        self.no(("by", 0))
        self.no(("by", 0, ()))
        self.no(("by", ()))
        for word in ["back", "as", "lean", "by", "cut"]:
            self.no((word, 0))
        for word in ["back", "as", "lean", "by", "split", "use"]:
            self.no((word, ATOM))
        for word in ["split", "use", "cut", "as", "lean", "by"]:
            self.no((word, 0, ()))
        for word in ["split", "use", "cut", "back", "lean", "by"]:
            self.no((word, SAYING, ()))
        for word in ["split", "use", "cut", "back", "as", "by"]:
            self.no((word, "nat", ()))
        for word in ["split", "use", "cut", "back", "as", "lean"]:
            self.no((word,))

    def test_numbers(self):
        for place in NO_PLACES:
            self.no(("split", place))
            self.no(("use", place))
            self.no(("back", place, ()))
            self.no(("back", place, BINDING))

    def test_bindings(self):
        for binding in NO_BINDINGS:
            self.no(("back", 0, binding))
            self.no(("as", SAYING, binding))
            self.no(("lean", "nat", binding))

    def test_atoms(self):
        for atom in NO_ATOMS:
            self.no(("cut", atom))

    def test_sayings(self):
        for saying in NO_SAYINGS:
            self.no(("as", saying, ()))

    def test_names(self):
        for name in NO_NAMES:
            self.no(("lean", name, ()))

    def test_odd_things(self):
        for thing in odd_things():
            self.no(thing)
            self.no((thing,))
            self.no(("by", thing))
            self.no(("cut", thing))
            self.no((thing, 0, ()))
            self.no(("as", thing, ()))
            self.no(("as", SAYING, thing) if thing != () else None)
            self.no(("back", 0, thing) if thing != () else None)
            self.no(("lean", thing, ()) if thing != "nat" else None)

    def test_by_name(self):
        self.told(is_step(thing=("by",)), True)


if __name__ == "__main__":
    unittest.main()

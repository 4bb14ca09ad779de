import unittest

from helper import GREAT_TERMS, NOUGHT, Case, odd_things, steps
from ringproofs.rules import atom_put, atom_variables, is_atom, is_name, is_rule


class IsName(Case):
    def test_so(self):
        for name in ["a", "z", "nat", "less", "abcdef", "zzzzzz", "i", "f", "s", "iff", "fi", "ifif", "xif", "x"]:
            self.told(is_name(name), True)

    def test_every_letter(self):
        for number in range(128):
            sign = chr(number)
            self.told(is_name(sign), "a" <= sign <= "z")
            self.told(is_name("ab" + sign), "a" <= sign <= "z")
            self.told(is_name(sign + "ab"), "a" <= sign <= "z")

    def test_not_so(self):
        for thing in ["", "if", "abcdefg", "abcdefgh", "Nat", "nAt", "naT", "NAT", "nat ", " nat", "n t", "nat0", "x0", "0",
                      "-", "na-t", "nat\n", "\n", "\u00e9", "na\u00ef", "\u03b1", b"nat", ["nat"], ("nat",), ("n",), ["n", "a"]]:
            with self.subTest(thing):
                self.told(is_name(thing), False)

    def test_odd_things(self):
        for thing in odd_things():
            self.told(is_name(thing), False)

    def test_by_name(self):
        self.told(is_name(thing="nat"), True)


ATOMS = [("nat", 0), ("nat", NOUGHT), ("even", ("s", 99)), ("less", 0, ("s", 1)), ("a", ("f", NOUGHT, 1)), ("abcdef", 1, 1),
         *[("nat", term) for term in GREAT_TERMS], *[("less", term, term) for term in GREAT_TERMS]]


class IsAtom(Case):
    def test_so(self):
        for thing in ATOMS:
            self.told(is_atom(thing), True)

    def test_not_so(self):
        for thing in [("nat",), ("nat", 0, 0, 0), ("nat", 0, 0, 0, 0), (), ["nat", 0], ["nat", 0, 1], ("if", 0), ("Nat", 0),
                      ("abcdefg", 0), ("", 0), (0, 0), (0, "nat"), (None, 0), (["nat"], 0), (("nat",), 0), ("nat", "0"),
                      ("nat", -1), ("nat", 100), ("nat", True), ("nat", None), ("nat", ["0"]), ("nat", ()), ("nat", (0,)),
                      ("less", 0, 100), ("less", -1, 0), ("less", 0, False), ("less", True, 0), ("less", 0, ["0"]),
                      ("less", ["0"], 0), ("less", 0, None), ("nat", (0, 1)), "nat", "nat x0", ("0",), ("nat", ("nat", 0)),
                      {"nat": 0}, None, True, 0, (("nat", 0),), ("nat", steps(20, True))]:
            with self.subTest(repr(thing)[:80]):
                self.told(is_atom(thing), False)

    def test_a_term_whose_sign_is_a_name(self):
        self.told(is_atom(("s", 0)), True)
        self.told(is_atom(("f", 0, NOUGHT)), True)
        self.told(is_atom(("f", 0)), True)

    def test_odd_things(self):
        for thing in odd_things():
            self.told(is_atom(thing), False)

    def test_by_name(self):
        self.told(is_atom(thing=("nat", 0)), True)


RULES = [(("nat", NOUGHT), ()), (("nat", 0), ()), (("nat", ("s", 0)), (("nat", 0),)), (("less", NOUGHT, ("s", 0)), ()),
         (("less", ("s", 0), ("s", 1)), (("less", 0, 1),)), (("nat", ("f", 0, 1)), (("nat", 0), ("nat", 1))),
         (("less", 0, 1), (("less", 1, 0), ("less", 0, 0), ("nat", 1))), (("a", ("f", 0, 1), ("f", 2, 3)), (("a", 3, 0),)),
         (("a", ("f", 0, 1), 2), ()), (("a", 0, ("f", 1, 2)), ()), (("a", ("s", 0), 1), (("b", 0), ("b", 0), ("b", 0))),
         (("a", NOUGHT, NOUGHT), ()), (("a", NOUGHT, 0), (("a", 0, 0),)), (("a", 0, NOUGHT), ())]


class IsRule(Case):
    def test_so(self):
        for thing in RULES:
            with self.subTest(repr(thing)):
                self.told(is_rule(thing), True)

    def test_heads(self):
        for head in [("nat", 1), ("nat", 99), ("nat", ("s", 1)), ("nat", ("f", 0, 0)), ("nat", ("f", 1, 0)), ("less", 0, 0),
                     ("nat", ("f", 0, 2)), ("nat", ("f", 1, 2)), ("less", 1, 0), ("less", 0, 2), ("less", ("s", 0), 0),
                     ("less", ("f", 0, 1), 1), ("less", ("f", 0, 1), 3), ("less", ("f", 1, 2), 0), ("less", NOUGHT, 1),
                     ("less", ("s", 1), ("s", 0)), ("nat", ("s", NOUGHT)), ("nat", ("s", ("s", 0))),
                     ("nat", ("f", 0, NOUGHT)), ("nat", ("f", NOUGHT, 0)), ("nat", ("f", 0, ("s", 1))), ("nat",),
                     ("less", 0, 1, 2), ["nat", 0], ("if", 0), ("nat", True), ("nat", False), ("less", 0, True),
                     ("nat", ("s", False)), ("nat", ("f", False, True)), ("nat", ["s", 0]), (), None, "nat x0", 0,
                     ("less", 0, ("s", ("s", 1))), ("nat", GREAT_TERMS[0])]:
            with self.subTest(repr(head)):
                self.told(is_rule((head, ())), False)

    def test_bodies(self):
        head = ("less", 0, ("s", 1))
        atom = ("nat", 0)
        for body in [(), (atom,), (atom, atom), (atom, atom, atom), (("less", 1, 0),), (("nat", 1), ("less", 0, 0))]:
            self.told(is_rule((head, body)), True)
        for body in [(atom,) * 4, (atom,) * 5, [], [atom], atom, (("nat", 2),), (("nat", 99),), (("less", 0, 2),),
                     (("less", 2, 0),), (atom, ("nat", 2)), (atom, atom, ("nat", 2)), (("nat", NOUGHT),), (("nat", ("s", 0)),),
                     (("nat", ("s", 1)),), (("less", 0, NOUGHT),), (["nat", 0],), (("if", 0),), (("nat",),), (atom, ()),
                     (("less", 0, 1, 0),), (("nat", True),), (("nat", False),), (("nat", "0"),), (None,), None, "nat x0", 0,
                     (("nat", -1),), ((),), (atom, None), (atom, ["nat", 0])]:
            with self.subTest(repr(body)):
                self.told(is_rule((head, body)), False)

    def test_bodies_of_heads_without_variables(self):
        self.told(is_rule((("nat", NOUGHT), (("nat", 0),))), False)
        self.told(is_rule((("nat", NOUGHT), (("nat", NOUGHT),))), False)

    def test_all_variables_of_a_head(self):
        head = ("a", ("f", 0, 1), ("f", 2, 3))
        for variable in range(4):
            self.told(is_rule((head, (("nat", variable),))), True)
        self.told(is_rule((head, (("nat", 4),))), False)

    def test_wrong_kinds(self):
        head = ("nat", 0)
        for thing in [(head,), (head, (), ()), [head, ()], (), head, "nat x0", None, True, 0, ((), head), (head, head),
                      (head, None), ((head, ()),), {}]:
            with self.subTest(repr(thing)):
                self.told(is_rule(thing), False)

    def test_odd_things(self):
        for thing in odd_things():
            self.told(is_rule(thing), False)
            self.told(is_rule((("nat", 0), thing)), thing == ())
            self.told(is_rule((thing, ())), False)

    def test_by_name(self):
        self.told(is_rule(thing=(("nat", 0), ())), True)


class AtomVariables(Case):
    def test_ordinary(self):
        self.told(atom_variables(("nat", NOUGHT)), [])
        self.told(atom_variables(("nat", 7)), [7])
        self.told(atom_variables(("less", 9, ("s", 2))), [2, 9])
        self.told(atom_variables(("less", ("f", 10, 9), ("f", 9, 0))), [0, 9, 10])
        self.told(atom_variables(("less", 4, 4)), [4])
        self.told(atom_variables(("less", ("f", 3, 99), NOUGHT)), [3, 99])

    def test_own_lists(self):
        self.asked_twice(atom_variables, ("less", 9, 2))

    def test_by_name(self):
        self.told(atom_variables(atom=("nat", 7)), [7])


class AtomPut(Case):
    def test_ordinary(self):
        self.told(atom_put(("nat", 0), ((0, NOUGHT),)), ("nat", NOUGHT))
        self.told(atom_put(("less", 0, ("s", 1)), ((0, ("s", 1)), (1, 0))), ("less", ("s", 1), ("s", 0)))
        self.told(atom_put(("less", 0, 1), ((1, NOUGHT),)), ("less", 0, NOUGHT))
        self.told(atom_put(("less", 0, 1), ()), ("less", 0, 1))
        self.told(atom_put(("nat", NOUGHT), ((0, 1),)), ("nat", NOUGHT))
        self.told(atom_put(("nat", ("f", 99, 98)), ((98, 99), (99, 98))), ("nat", ("f", 98, 99)))

    def test_by_name(self):
        self.told(atom_put(binding=((0, NOUGHT),), atom=("nat", 0)), ("nat", NOUGHT))


if __name__ == "__main__":
    unittest.main()

import unittest

from helper import GREAT_TERMS, NOUGHT, Case
from ringproofs.errors import BadText
from ringproofs.ruletexts import atom_in, atom_text, rule_in, rule_text
from ringproofs.termtexts import term_text

ATOM_TEXTS = [(("less", 0, ("s", 1)), "less x0 s(x1)"), (("nat", NOUGHT), "nat 0"), (("a", 99), "a x99"),
              (("abcdef", ("f", 0, 1), NOUGHT), "abcdef f(x0,x1) 0"), (("s", 0), "s x0"), (("f", 0, 1), "f x0 x1"),
              (("x", 7), "x x7")]

NO_ATOM_TEXTS = ["", " ", "nat", "nat ", " nat", "nat x0 ", " nat x0", "nat  x0", "nat x0  x1", "nat x0 x1 x2", "nat x0,x1",
                 "nat x0, x1", "nat(x0)", "nat(x0,x1)", "if x0", "if", "if if", "Nat x0", "nAt x0", "NAT x0", "abcdefg x0",
                 "nat0 x0", "nat x00", "nat x01", "nat x100", "nat s(x0", "nat s x0)", "nat (0)", "nat 0)", "nat f(0, 0)",
                 "nat -", "x0", "x0 nat", "0 0", "- x0", "nat x0\n", "nat\nx0", "nat\tx0", "nat x0.", "nat_ x0", "nat if",
                 "nat " + "(" * 5990, "nat " + ")" * 5990, "nat " + "s(" * 1900 + "0" + ")" * 1900, "(" * 6000,
                 "nat 0 " + "s(" * 2900, "nat" + " x0" * 1900, "a" * 6000, "a " * 3000]


class AtomTexts(Case):
    def test_both_ways(self):
        for atom, text in ATOM_TEXTS:
            self.told(atom_text(atom), text)
            self.told(atom_in(text), atom)

    def test_great_terms(self):
        for term in GREAT_TERMS:
            text = "less " + term_text(term) + " " + term_text(term)
            self.told(atom_text(("less", term, term)), text)
            self.told(atom_in(text), ("less", term, term))

    def test_no_texts(self):
        for text in NO_ATOM_TEXTS:
            with self.subTest(text[:80]):
                self.refused(BadText, text, atom_in, text)

    def test_by_name(self):
        self.told(atom_text(atom=("nat", 0)), "nat x0")
        self.told(atom_in(text="nat x0"), ("nat", 0))
        self.refused(BadText, "nat", atom_in, text="nat")


RULE_TEXTS = [((("even", NOUGHT), ()), "even 0"), ((("even", ("s", 0)), (("odd", 0),)), "even s(x0) if odd x0"),
              ((("nat", 0), ()), "nat x0"), ((("less", NOUGHT, ("s", 0)), ()), "less 0 s(x0)"),
              ((("nat", ("f", 0, 1)), (("nat", 0), ("nat", 1))), "nat f(x0,x1) if nat x0, nat x1"),
              ((("a", ("f", 0, 1), ("f", 2, 3)), (("b", 3), ("a", 2, 2), ("b", 3))),
               "a f(x0,x1) f(x2,x3) if b x3, a x2 x2, b x3"),
              ((("less", ("s", 0), ("s", 1)), (("less", 0, 1),)), "less s(x0) s(x1) if less x0 x1")]

NO_RULE_TEXTS = ["", " ", "-", "nat", "nat ", " nat x0", "nat x0 ", "nat x1", "nat s(x1)", "nat s(0)", "nat s(s(x0))",
                 "nat f(x0,x0)", "nat f(x1,x0)", "less x0 x0", "less x1 x0", "less x0 x2", "if x0", "nat x0 if",
                 "nat x0 if ", "nat x0 if  odd x0", "nat x0  if odd x0", "nat x0 if odd x0 ", "nat x0 if odd x0,",
                 "nat x0 if odd x0, ", "nat x0 if , odd x0", "nat x0 if odd x0,odd x0", "nat x0 if odd x0,  odd x0",
                 "nat x0 if odd x0 ,odd x0", "nat x0 if odd x0 , odd x0", "nat x0 if odd x0 odd x0", "nat x0, odd x0",
                 "nat x0 if odd x0 if odd x0", "nat x0 if if x0", "nat x0 if x0", "nat x0 if odd", "nat x0 if odd x1",
                 "nat 0 if odd x0", "nat x0 if odd 0", "nat s(x0) if odd s(x0)", "if nat x0", " if odd x0", "if odd x0",
                 "nat x0 If odd x0", "nat x0 IF odd x0", "nat x0if odd x0", "nat x0 ifodd x0", "nat x0 :- odd x0",
                 "nat x0 if odd x0, odd x0, odd x0, odd x0", "nat x0\n", "nat x0\nnat x0", "abcdefg x0", "Nat x0",
                 "nat x0 if abcdefg x0", "nat x0 if Odd x0", "nat x00", "nat x0 if odd x00", "nat x0 if odd x0 x0 x0",
                 "nat (x0)", "nat s(x0", "nat s(x0))", "nat x0 if nat (x0)", "less x0 x1 x2",
                 "nat " + "s(" * 2900, "nat " + "s(" * 1900 + "x0" + ")" * 1900, "(" * 6000, ")" * 6000,
                 "nat x0 if nat " + "(" * 5000, "nat x0 if nat " + "s(" * 1900 + "x0" + ")" * 1900,
                 "nat x0 if " + "nat x0, " * 700 + "nat x0", " if " * 1500]


class RuleTexts(Case):
    def test_both_ways(self):
        for rule, text in RULE_TEXTS:
            self.told(rule_text(rule), text)
            self.told(rule_in(text), rule)

    def test_no_texts(self):
        for text in NO_RULE_TEXTS:
            with self.subTest(text[:80]):
                self.refused(BadText, text, rule_in, text)

    def test_spoilt_at_the_first_and_the_last_sign(self):
        for _, text in RULE_TEXTS:
            for spoilt in [" " + text, text + " ", text[1:] if text[1] == " " else " " + text[1:], text[:-1] + "(",
                           text + ")", text + ",", "-" + text, "0" + text[1:]]:
                self.refused(BadText, spoilt, rule_in, spoilt)

    def test_by_name(self):
        self.told(rule_text(rule=(("nat", 0), ())), "nat x0")
        self.told(rule_in(text="nat x0"), (("nat", 0), ()))
        self.refused(BadText, "nat x1", rule_in, text="nat x1")


if __name__ == "__main__":
    unittest.main()

import unittest

from helper import GREAT_TERMS, NOUGHT, Case, steps
from ringproofs.errors import BadText
from ringproofs.terms import is_term
from ringproofs.termtexts import binding_in, binding_text, term_in, term_text
from ringproofs.trees import trees

TEXTS = [(0, "x0"), (3, "x3"), (10, "x10"), (99, "x99"), (NOUGHT, "0"), (("s", 3), "s(x3)"), (("s", NOUGHT), "s(0)"),
         (("f", NOUGHT, ("s", 1)), "f(0,s(x1))"), (("f", 1, 0), "f(x1,x0)"), (("f", ("f", 0, 1), 2), "f(f(x0,x1),x2)"),
         (("f", 0, ("f", 1, 2)), "f(x0,f(x1,x2))"), (("s", ("f", ("s", 0), NOUGHT)), "s(f(s(x0),0))"),
         (steps(39), "s(" * 39 + "0" + ")" * 39)]

NO_TERM_TEXTS = ["", " ", "x", "X0", "x-1", "x100", "x1000", "x00", "x01", "x09", "x 1", "x+1", "x1_0", "x0x1", "x0 ", " x0",
                 " 0", "0 ", "00", "01", "1", "0,0", "0)", "(0", "(0)", "()", "(", ")", ",", "s", "f", "s()", "s( )", "s0",
                 "s(0", "s0)", "s(0))", "s((0))", "s(0,0)", "s(,0)", "s(0,)", "s (0)", "s( 0)", "s(0 )", "S(0)", "s(s)",
                 "s[0]", "s{0}", "s(00)", "s(x01)", "s(x100)", "f()", "f(0)", "f(0,)", "f(,0)", "f(0,0", "f0,0)", "f(0 0)",
                 "f(0, 0)", "f(0,0,0)", "f(0;0)", "f(00)", "f(0,0))", "f(0)(0)", "f(0,(0))", "f((0,0))", "f(s(0),f)",
                 "sf(0,0)", "s(f(0),0)", "f(s(0,0))", "fs(0,0)", "g(0)", "f(0,0)0", "0f(0,0)", "-", "x0=0", "nat 0", "0\n",
                 "\n0", "x0\n", "x\u0663", "x\u00b2", "s(\t0)", "x" + "9" * 5000, "x" + "0" * 5000 + "1", "0" * 6000]


class TermTexts(Case):
    def test_both_ways(self):
        for term, text in TEXTS:
            self.told(term_text(term), text)
            self.told(term_in(text), term)

    def test_every_variable(self):
        for variable in range(100):
            self.told(term_text(variable), "x" + str(variable))
            self.told(term_in("x" + str(variable)), variable)

    def test_all_small_trees_and_the_great(self):
        for term in trees(7) + GREAT_TERMS:
            self.told(term_in(term_text(term)), term)
            self.assertTrue(is_term(term_in(term_text(term))))

    def test_no_texts(self):
        for text in NO_TERM_TEXTS:
            with self.subTest(text[:80]):
                self.refused(BadText, text, term_in, text)

    def test_a_sign_more_or_less(self):
        # Each text with one sign left out, or one more put in, is some other TERM's text or none's.
        for _, text in TEXTS:
            for at in range(len(text) + 1):
                spoilt = [text[:at] + text[at + 1:]] + [text[:at] + sign + text[at:] for sign in "0sfx9(), "]
                for other in spoilt:
                    try:
                        self.told(term_text(term_in(other)), other)
                    except BadText as refusal:
                        self.told(refusal.what, other)

    def test_thousands_of_brackets(self):
        for text in ["(" * 6000, ")" * 6000, "s(" * 3000, "s(" * 2999 + "0", "f(" * 3000, "s(" * 1999 + "0" + ")" * 1998,
                     "s(" * 1999 + "0" + ")" * 1999, "s(" * 1999 + "0" + ")" * 2000, "f(0," * 1499, "(),"  * 2000,
                     "f(0," * 1100 + "0" + ")" * 1100, "f(" * 1400 + "0" + ",0)" * 1399, "s()" * 2000, "," * 6000,
                     "f(" + "s(" * 1400 + "0" + ")" * 1400 + ",", " " * 6000]:
            with self.subTest(text[:20]):
                self.refused(BadText, text, term_in, text)

    def test_somewhat_beyond(self):
        text = "s(" * 60 + "x0" + ")" * 60
        self.told(term_in(text), steps(60, 0))
        self.told(term_text(steps(60, 0)), text)

    def test_by_name(self):
        self.told(term_text(term=("s", 3)), "s(x3)")
        self.told(term_in(text="s(x3)"), ("s", 3))
        self.refused(BadText, "s", term_in, text="s")


BINDINGS = [((), "-"), (((0, NOUGHT),), "x0=0"), (((99, 99),), "x99=x99"), (((0, ("s", 1)), (2, NOUGHT)), "x0=s(x1) x2=0"),
            (((0, 1), (1, 0)), "x0=x1 x1=x0"), (((2, ("f", 0, ("s", 1))), (10, 3)), "x2=f(x0,s(x1)) x10=x3")]

NO_BINDING_TEXTS = ["", " ", "--", "- ", " -", "x0", "x0=", "=0", "=", "x0=0 ", " x0=0", "x0=0  x1=0", "x0 =0", "x0= 0",
                    "x0=0,x1=0", "x0=0, x1=0", "x0=0x1=0", "x1=0 x0=0", "x0=0 x0=0", "x0=0 x0=x1", "x0=0 x2=0 x1=0",
                    "x00=0", "x01=0", "x100=0", "x-1=0", "0=0", "s(x0)=0", "x0==0", "x0=0=0", "x0=x100", "x0=x01",
                    "x0=s(0", "x0=(0)", "x0=-", "- x0=0", "x0=0 -", "X0=0", "x0:0", "x0=0\n", "x0=0\nx1=0", "x0=if",
                    "x0=" + "s(" * 2900, "x0=" + "s(" * 1900 + "0" + ")" * 1900, "(" * 6000, "x0=0 " * 1200, "=" * 6000]


class BindingTexts(Case):
    def test_both_ways(self):
        for binding, text in BINDINGS:
            self.told(binding_text(binding), text)
            self.told(binding_in(text), binding)

    def test_all_variables_and_great_terms(self):
        binding = tuple((variable, GREAT_TERMS[variable % 4]) for variable in range(100))
        self.told(binding_in(binding_text(binding)), binding)

    def test_no_texts(self):
        for text in NO_BINDING_TEXTS:
            with self.subTest(text[:80]):
                self.refused(BadText, text, binding_in, text)

    def test_a_list_will_do(self):
        self.told(binding_text([(0, NOUGHT)]), "x0=0")
        self.told(binding_text([]), "-")

    def test_by_name(self):
        self.told(binding_text(binding=((0, NOUGHT),)), "x0=0")
        self.told(binding_in(text="x0=0"), ((0, NOUGHT),))
        self.refused(BadText, "x0", binding_in, text="x0")


if __name__ == "__main__":
    unittest.main()

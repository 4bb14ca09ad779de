import unittest

from helper import GREAT_TERMS, NOUGHT, Case
from ringproofs.errors import BadText
from ringproofs.sayingtexts import saying_in, saying_text
from ringproofs.termtexts import term_text

TEXTS = [((((("nat", 0), ("even", 1)), ("nat", ("f", 0, 1)))), "nat x0, even x1 |- nat f(x0,x1)"),
         (((), ("even", NOUGHT)), "|- even 0"), (((), ("less", 0, 99)), "|- less x0 x99"),
         (((("nat", 0),), ("nat", 0)), "nat x0 |- nat x0"),
         (((("less", NOUGHT, ("s", 1)), ("a", 99)), ("abcdef", 3, 4)), "less 0 s(x1), a x99 |- abcdef x3 x4"),
         ((tuple(("nat", k) for k in range(6)), ("nat", 0)), "nat x0, nat x1, nat x2, nat x3, nat x4, nat x5 |- nat x0")]

NO_TEXTS = ["", " ", "|-", "|- ", " |-", " |- ", "-", "nat x0", "nat x0 |-", "nat x0 |- ", "|-nat x0", " |- nat x0",
            "|-  nat x0", "|- nat x0 ", "|- nat  x0", "nat x0|- nat x0", "nat x0 |-nat x0", "nat x0  |- nat x0",
            "nat x0 |-  nat x0", " nat x0 |- nat x0", "nat x0 |- nat x0 ", "nat x0 |- nat x0,", "nat x0, |- nat x0",
            "nat x0,  |- nat x0", ", nat x0 |- nat x0", ",nat x0 |- nat x0", "nat x0,odd x0 |- nat x0",
            "nat x0 ,odd x0 |- nat x0", "nat x0,  odd x0 |- nat x0", "nat x0 , odd x0 |- nat x0", "nat x0 odd x0 |- nat x0",
            "nat x0 |- nat x0, odd x0", "nat x0 |- nat x0 |- nat x0", "|- nat x0 |- nat x0", "nat x0 |- |- nat x0",
            "|- |- nat x0", "- |- nat x0", "nat x0 |- -", "nat x0 | - nat x0", "nat x0 - nat x0", "nat x0 -| nat x0",
            "nat x0 |= nat x0", "nat x0 ||- nat x0", "nat x0 |-- nat x0", "nat |- nat x0", "nat x0 |- nat", "x0 |- nat x0",
            "nat x0 |- x0", "if x0 |- nat x0", "nat x0 |- if x0", "nat x0 if odd x0 |- nat x0", "nat x00 |- nat x0",
            "nat x0 |- nat x00", "nat x100 |- nat x0", "nat x0 |- nat x100", "nat x0, nat x0 |- nat x0",
            "nat x0, odd x0, nat x0 |- odd 0", "nat s(x0), nat s(x0) |- odd 0", "nat x0 |- nat s(x0", "nat s(x0 |- nat x0",
            "nat x0 |- nat x0\n", "\nnat x0 |- nat x0", "nat x0\n|- nat x0", "Nat x0 |- nat x0", "abcdefg x0 |- nat x0",
            "nat x0 |- less x0 x1 x2", "nat x0 |- nat (x0)", "nat x0; odd x0 |- nat x0",
            "nat x0, nat x1, nat x2, nat x3, nat x4, nat x5, nat x6 |- nat x0",
            "nat x0, nat x1, nat x2, nat x3, nat x4, nat x5, nat x5 |- nat x0",
            "|- nat " + "(" * 5990, "|- nat " + "s(" * 2900, "|- nat " + "s(" * 1900 + "0" + ")" * 1900, "(" * 6000,
            ")" * 6000, "nat " + "s(" * 1900 + "x0" + ")" * 1900 + " |- nat x0", "nat " + "(" * 5900 + " |- nat x0",
            "nat x0, " * 700 + "nat x0 |- nat x0", "|- " * 2000, " |- " * 1500, ", " * 3000, "|" * 6000]


class SayingTexts(Case):
    def test_both_ways(self):
        for saying, text in TEXTS:
            self.told(saying_text(saying), text)
            self.told(saying_in(text), saying)

    def test_great_terms(self):
        for term in GREAT_TERMS:
            text = f"less {term_text(term)} x0, nat {term_text(term)} |- less x99 {term_text(term)}"
            saying = ((("less", term, 0), ("nat", term)), ("less", 99, term))
            self.told(saying_text(saying), text)
            self.told(saying_in(text), saying)

    def test_no_texts(self):
        for text in NO_TEXTS:
            with self.subTest(text[:80]):
                self.refused(BadText, text, saying_in, text)

    def test_spoilt_at_the_first_and_the_last_sign(self):
        for _, text in TEXTS:
            for spoilt in [" " + text, text + " ", "-" + text, text + ")", text + ",", "0" + text[1:], text[:-1] + "(",
                           text[:-1], "\n" + text, text + "\n"]:
                if spoilt not in [other for _, other in TEXTS] and spoilt != "|- less x0 x9":
                    self.refused(BadText, spoilt, saying_in, spoilt)

    def test_a_sign_more_or_less(self):
        # Each text with one sign left out, or one more put in, is some other saying's text or none's.
        for _, text in TEXTS[:5]:
            for at in range(len(text) + 1):
                spoilt = [text[:at] + text[at + 1:]] + [text[:at] + sign + text[at:] for sign in "0sfx9(), |-"]
                for other in spoilt:
                    try:
                        self.told(saying_text(saying_in(other)), other)
                    except BadText as refusal:
                        self.told(refusal.what, other)

    def test_a_goal_that_is_a_hyp_and_hyps_in_their_order(self):
        self.told(saying_text((((("nat", 1), ("nat", 0))), ("nat", 1))), "nat x1, nat x0 |- nat x1")
        self.told(saying_in("nat x1, nat x0 |- nat x1")[0], (("nat", 1), ("nat", 0)))

    def test_by_name(self):
        self.told(saying_text(saying=((), ("nat", 0))), "|- nat x0")
        self.told(saying_in(text="|- nat x0"), ((), ("nat", 0)))
        self.refused(BadText, "nat x0", saying_in, text="nat x0")


if __name__ == "__main__":
    unittest.main()

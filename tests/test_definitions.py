import unittest

from helper import NOUGHT, Case
from ringproofs.definitions import Definitions
from ringproofs.errors import Clash, NoRule
from ringproofs.ruletexts import rule_in

NAT = ["nat 0", "nat s(x0) if nat x0"]
EVEN = ["even 0", "even s(x0) if odd x0", "odd s(x0) if even x0"]
LESS = ["less 0 s(x0)", "less s(x0) s(x1) if less x0 x1"]


def rules_of(texts):
    return [rule_in(text) for text in texts]


def made(texts):
    return Definitions(rules_of(texts))


class Telling(Case):
    def test_places(self):
        defs = Definitions()
        places = [defs.tell(rule) for rule in rules_of([NAT[0], EVEN[0], EVEN[1], EVEN[2], NAT[1], LESS[0], NAT[0], NAT[0]])]
        self.told(places, [0, 0, 1, 0, 1, 0, 2, 3])

    def test_one_rule_twice(self):
        defs = Definitions()
        rule = rule_in(NAT[1])
        self.told(defs.tell(rule), 0)
        self.told(defs.tell(rule), 1)
        self.told(defs.all_rules(), [rule, rule])
        self.told(defs.rules("nat"), [rule, rule])

    def test_a_place_counts_heads_alone(self):
        defs = made(["even s(x0) if odd x0", "even 0"])
        self.told(defs.tell(rule_in("odd s(x0) if even x0")), 0)

    def test_by_name(self):
        defs = Definitions(rules=rules_of(NAT))
        self.told(defs.tell(rule=rule_in(NAT[0])), 2)


class Asking(Case):
    def test_nothing_told(self):
        for defs in [Definitions(), Definitions([]), Definitions(())]:
            self.told(defs.all_rules(), [])
            self.told(defs.words(), [])
            self.told(defs.rules("nat"), [])
            self.told(defs.terms("nat"), None)

    def test_rules(self):
        defs = made([EVEN[2], NAT[1], EVEN[1], LESS[0], NAT[0], EVEN[0]])
        self.told(defs.rules("nat"), rules_of([NAT[1], NAT[0]]))
        self.told(defs.rules("even"), rules_of([EVEN[1], EVEN[0]]))
        self.told(defs.rules("odd"), rules_of([EVEN[2]]))
        self.told(defs.rules("less"), rules_of([LESS[0]]))
        self.told(defs.rules("none"), [])
        self.told(defs.rules(word="odd"), rules_of([EVEN[2]]))

    def test_words(self):
        self.told(made(NAT + EVEN + LESS).words(), ["even", "less", "nat", "odd"])
        self.told(made(["p x0 if zz x0, aa x0, mm x0 x0"]).words(), ["aa", "mm", "p", "zz"])
        self.told(made(["nat 0", "nat 0"]).words(), ["nat"])

    def test_terms(self):
        defs = made(["p x0 if zz x0, mm x0 x0"])
        for word, many in [("p", 1), ("zz", 1), ("mm", 2), ("q", None), ("if", None)]:
            self.told(defs.terms(word), many)
        self.told(defs.terms(word="mm"), 2)
        self.told(defs.rules("mm"), [])

    def test_all_rules(self):
        texts = [EVEN[2], NAT[1], LESS[1], NAT[1], NAT[0]]
        self.told(made(texts).all_rules(), rules_of(texts))
        self.told(Definitions(tuple(rules_of(texts))).all_rules(), rules_of(texts))

    def test_eight_rules_of_six_words(self):
        texts = ["a x0 if b x0", "b x0 if c x0", "c x0 if d x0", "d x0 if e x0", "e x0 if g x0", "g s(x0) if a x0", "g 0", "a 0"]
        defs = made(texts)
        self.told(defs.words(), ["a", "b", "c", "d", "e", "g"])
        self.told(defs.all_rules(), rules_of(texts))
        self.told(defs.tell(rule_in("a f(x0,x1) if a x0, a x1")), 2)


class Clashes(Case):
    def unchanged(self, defs, text, word):
        ahead = (defs.all_rules(), defs.words(), [defs.terms(each) for each in "pqr"])
        self.refused(Clash, word, defs.tell, rule_in(text))
        self.told((defs.all_rules(), defs.words(), [defs.terms(each) for each in "pqr"]), ahead)

    def test_in_the_head(self):
        self.unchanged(made(["p x0"]), "p x0 x1", "p")
        self.unchanged(made(["p x0 x1"]), "p x0", "p")
        self.unchanged(made(["q x0 if p x0"]), "p x0 x1 if r x0", "p")

    def test_in_the_body(self):
        self.unchanged(made(["p x0"]), "q x0 if p x0 x0", "p")
        self.unchanged(made(["q x0 if p x0"]), "r x0 if q x0, p x0 x0", "p")
        self.unchanged(made(["p x0"]), "q x0 if r x0, r x0, p x0 x0", "p")

    def test_within_the_rule(self):
        self.unchanged(Definitions(), "p x0 if p x0 x0", "p")
        self.unchanged(Definitions(), "p x0 if q x0, q x0 x0", "q")
        self.unchanged(Definitions(), "p x0 if q x0, r x0, q x0 x0", "q")
        self.unchanged(Definitions(), "p x0 if q x0 x0, r x0, r x0 x0", "r")
        self.unchanged(made(["r x0"]), "p x0 x1 if q x0, q x1, p x0", "p")

    def test_the_first_word_head_first(self):
        self.unchanged(made(["p x0", "q x0"]), "p x0 x1 if q x0 x1", "p")
        self.unchanged(made(["p x0", "q x0"]), "r x0 if q x0 x0, p x0 x0", "q")
        self.unchanged(made(["q x0"]), "p x0 if p x0 x0, q x0 x0", "p")
        self.unchanged(made(["q x0"]), "p x0 if q x0 x0, p x0 x0", "q")

    def test_told_again_behind_a_clash(self):
        defs = made(["p x0"])
        self.refused(Clash, "p", defs.tell, rule_in("q x0 x1 if p x0 x1"))
        self.told(defs.tell(rule_in("q x0 if p x0")), 0)
        self.told(defs.terms("q"), 1)

    def test_in_the_making(self):
        self.refused(Clash, "p", Definitions, rules_of(["p x0", "q x0", "p x0 x1"]))
        self.refused(Clash, "q", Definitions, rules_of(["p x0 if q x0", "q x0 x1", "p x0 x1"]))
        self.refused(Clash, "p", Definitions, rules=rules_of(["p x0 if p x0 x0"]))

    def test_by_name(self):
        self.refused(Clash, "p", made(["p x0"]).tell, rule=rule_in("p x0 x1"))


class OwnThings(Case):
    def test_a_list_changed_behind(self):
        rules = rules_of(NAT)
        defs = Definitions(rules)
        rules.append(rule_in("odd 0"))
        rules[0] = rule_in("nat x0")
        self.told(defs.all_rules(), rules_of(NAT))
        self.told(defs.words(), ["nat"])

    def test_a_list_is_not_changed(self):
        rules = rules_of(NAT)
        Definitions(rules).tell(rule_in("odd 0"))
        self.told(rules, rules_of(NAT))

    def test_told_lists_changed(self):
        defs = made(NAT + EVEN)
        self.asked_twice(defs.all_rules)
        self.asked_twice(defs.words)
        self.asked_twice(defs.rules, "nat")
        self.asked_twice(defs.rules, "none")
        self.told(defs.all_rules(), rules_of(NAT + EVEN))


class Without(Case):
    def test_each_place(self):
        texts = NAT + EVEN + LESS
        defs = made(texts)
        for place in range(len(texts)):
            left = defs.without(place)
            self.told(left.all_rules(), rules_of(texts[:place] + texts[place + 1:]))
            self.told(left == made(texts[:place] + texts[place + 1:]), True)
        self.told(defs.all_rules(), rules_of(texts))

    def test_no_such_place(self):
        defs = made(NAT)
        for place in [-1, -2, -3, 2, 3, 10 ** 9, -10 ** 9]:
            self.refused(NoRule, place, defs.without, place)
        self.refused(NoRule, 0, Definitions().without, 0)
        self.refused(NoRule, -1, Definitions().without, -1)
        self.told(defs.all_rules(), rules_of(NAT))

    def test_words_left_out_are_free(self):
        left = made(["nat 0", "p x0 if q x0 x0"]).without(1)
        self.told(left.words(), ["nat"])
        self.told(left.terms("q"), None)
        self.told(left.tell(rule_in("p x0 x1 if q x0")), 0)

    def test_words_that_stand_elsewhere_stay(self):
        left = made(["p x0 if q x0", "q 0", "p 0"]).without(1)
        self.told(left.words(), ["p", "q"])
        self.refused(Clash, "q", left.tell, rule_in("q x0 x1"))

    def test_one_of_two_alike(self):
        defs = made(["nat 0", "odd 0", "nat 0"])
        self.told(defs.without(0).all_rules(), rules_of(["odd 0", "nat 0"]))
        self.told(defs.without(2).all_rules(), rules_of(["nat 0", "odd 0"]))

    def test_of_their_own(self):
        defs = made(NAT)
        left = defs.without(0)
        left.tell(rule_in("odd 0"))
        defs.tell(rule_in("even 0"))
        self.told(left.all_rules(), rules_of([NAT[1], "odd 0"]))
        self.told(defs.all_rules(), rules_of([*NAT, "even 0"]))

    def test_by_name(self):
        self.told(made(NAT).without(place=0).all_rules(), rules_of(NAT[1:]))
        self.refused(NoRule, 5, made(NAT).without, place=5)


class Twins(Case):
    def test_twin(self):
        defs = made(EVEN)
        twin = defs.twin()
        self.assertIs(type(twin), Definitions)
        self.assertIsNot(twin, defs)
        self.told(twin.all_rules(), defs.all_rules())
        self.told(twin.words(), defs.words())
        self.told(twin == defs, True)
        twin.tell(rule_in("nat 0"))
        self.told(defs.all_rules(), rules_of(EVEN))
        self.told(defs.terms("nat"), None)
        defs.tell(rule_in("zero 0"))
        self.told(twin.all_rules(), rules_of([*EVEN, "nat 0"]))
        self.told(twin == defs, False)

    def test_equal(self):
        self.told(Definitions() == Definitions(), True)
        self.told(made(NAT) == made(NAT), True)
        self.told(made(NAT) != made(NAT), False)
        self.told(made(NAT) == made(NAT[::-1]), False)
        self.told(made(NAT) == made(NAT[:1]), False)
        self.told(made(NAT) == made(NAT + NAT[:1]), False)
        self.told(made(NAT) != made(EVEN), True)
        self.told(made(NAT + ["odd 0"]).without(2) == made(NAT), True)

    def test_equal_to_nothing_else(self):
        defs = made(NAT)
        for other in [None, True, 0, "", [], (), defs.all_rules(), tuple(defs.all_rules()), NOUGHT, {}, object()]:
            self.told(defs == other, False)
            self.told(defs != other, True)
            self.told(other == defs, False)
        self.told(Definitions() == [], False)


if __name__ == "__main__":
    unittest.main()

import unittest
from copy import deepcopy
from random import Random

from helper import EVEN, NAT, Case
from ringproofs.charts import leaned
from ringproofs.charttexts import chart_in
from ringproofs.definitions import Definitions
from ringproofs.deftexts import definitions_text
from ringproofs.errors import (BadChart, Clash, Known, Leans, Leant, NoRule, NotLetBy, RingError, TooMany, Unknown)
from ringproofs.rounds import is_let_by, shows_round
from ringproofs.ruletexts import rule_in
from ringproofs.sayingtexts import saying_in
from ringproofs.shelf import Shelf
from ringproofs.together import put_in
from ringproofs.words import SHELF
from test_charts import EVEN_IS_NAT, ODD_IS_NAT
from test_together import ON, TWICE

RULES = [rule_in(row) for row in (NAT + "\n" + EVEN).split("\n")]
NUMBER = chart_in("|- nat s(0)\nuse 1\nuse 0")
BY = chart_in("nat x0 |- nat x0\nby")
AGAIN = chart_in("odd x5 |- nat s(x5)\nuse 1\nlean on x5=x5")
ON_BY = chart_in("nat x3 |- nat x3\nlean b x0=x3")
LESS_RULE = rule_in("less 0 s(x0)")


def even_odd():
    """A shelf on which `on` leans on `en`, and `again` on `on`."""
    shelf = Shelf(RULES)
    shelf.add("en", EVEN_IS_NAT)
    shelf.add("on", ON)
    shelf.add("again", AGAIN)
    return shelf


def all_of(shelf):
    """All that a shelf tells."""
    names = shelf.names()
    return (definitions_text(shelf.definitions()), names, shelf.standing(), shelf.charts(), len(shelf), shelf.log(), shelf.is_open(),
            [(shelf.chart(name), shelf.saying(name), shelf.leans(name)) for name in names])


class Asked(Case):
    def test_bare(self):
        for shelf in [Shelf(), Shelf(rules=()), Shelf([]), Shelf(most=3), Shelf((), most=0)]:
            self.told(all_of(shelf), ("-", [], [], [], 0, [], True, []))
            self.told(shelf.undo(), False)

    def test_what_it_holds(self):
        shelf = even_odd()
        self.told(shelf.names(), ["again", "en", "on"])
        self.told(shelf.standing(), ["again", "en", "on"])
        self.told(shelf.charts(), [("en", EVEN_IS_NAT), ("on", ON), ("again", AGAIN)])
        self.told(len(shelf), 3)
        self.told(shelf.chart("on"), ON)
        self.told(shelf.saying("on"), saying_in("odd x5 |- nat x5"))
        self.told([shelf.leans(name) for name in shelf.names()], [["on"], [], ["en"]])
        self.told(shelf.definitions() == Definitions(RULES), True)

    def test_unknown(self):
        for shelf in [Shelf(), even_odd()]:
            for call in [shelf.chart, shelf.saying, shelf.leans]:
                self.refused(Unknown, "zz", call, "zz")
                self.refused(Unknown, "zz", call, name="zz")

    def test_rules_handed_in(self):
        self.told(Shelf(tuple(RULES)).definitions() == Shelf(RULES).definitions(), True)
        self.refused(Clash, "nat", Shelf, [*RULES, rule_in("nat x0 x1")])
        rules = list(RULES)
        shelf = Shelf(rules)
        rules.append(LESS_RULE)
        rules[0] = LESS_RULE
        self.told(shelf.definitions() == Definitions(RULES), True)

    def test_own_lists(self):
        shelf = even_odd()
        for call in [shelf.names, shelf.standing, shelf.charts, shelf.log]:
            self.asked_twice(call)
        self.asked_twice(shelf.leans, "on")
        self.asked_twice(shelf.leans, "en")
        self.told(all_of(shelf), all_of(even_odd()))

    def test_definitions_of_their_own(self):
        shelf = even_odd()
        defs = shelf.definitions()
        defs.tell(rule_in("even x0"))
        self.told(shelf.definitions() == Definitions(RULES), True)
        self.told(shelf.standing(), ["again", "en", "on"])
        defs = shelf.definitions()
        shelf.tell(LESS_RULE)
        self.told(defs == Definitions(RULES), True)

    def test_names(self):
        shelf = Shelf(rules=RULES, most=2)
        self.told(shelf.add(chart=EVEN_IS_NAT, name="en"), None)
        self.told(shelf.add("b", chart=BY), None)
        self.refused(TooMany, 2, shelf.add, name="c", chart=BY)
        self.told(shelf.tell(rule=LESS_RULE), 5)
        self.told(shelf.untell(place=5), None)
        self.told(shelf.drop(name="b"), None)
        self.told(shelf.chart(name="en"), EVEN_IS_NAT)
        self.told(shelf.saying(name="en"), EVEN_IS_NAT[0])
        self.told(shelf.leans(name="en"), [])
        self.assertRaises(TypeError, Shelf, RULES, 2)


class Rules(Case):
    def test_tell(self):
        shelf = Shelf()
        self.told([shelf.tell(rule) for rule in RULES], [0, 1, 2, 3, 4])
        self.told(shelf.tell(RULES[0]), 5)
        self.told(shelf.definitions().all_rules(), [*RULES, RULES[0]])

    def test_clash(self):
        shelf = even_odd()
        before = all_of(shelf)
        self.refused(Clash, "nat", shelf.tell, rule_in("nat x0 x1"))
        self.refused(Clash, "odd", shelf.tell, rule_in("less x0 x1 if nat x0, odd x0 x1"))
        self.refused(Clash, "new", shelf.tell, rule_in("new x0 if new x0 x0"))
        self.told(all_of(shelf), before)
        self.told(shelf.undo(), True)
        self.told(shelf.names(), ["en", "on"])

    def test_untell(self):
        shelf = Shelf(RULES)
        self.told(shelf.untell(1), None)
        self.told(shelf.definitions().all_rules(), [RULES[0], *RULES[2:]])
        self.told(shelf.untell(3), None)
        self.told(shelf.definitions().all_rules(), [RULES[0], *RULES[2:4]])
        for place in (3, 4, 99, -1, -3, 10 ** 9):
            self.refused(NoRule, place, shelf.untell, place)
        self.refused(NoRule, 0, Shelf().untell, 0)

    def test_a_word_may_have_other_terms_when_its_rules_are_gone(self):
        shelf = Shelf([LESS_RULE])
        self.refused(Clash, "less", shelf.tell, rule_in("less x0"))
        shelf.untell(0)
        self.told(shelf.tell(rule_in("less x0")), 0)
        shelf.undo()
        shelf.undo()
        self.refused(Clash, "less", shelf.tell, rule_in("less x0"))

    def test_a_rule_by_which_charts_fall_and_stand_again(self):
        shelf = even_odd()
        self.told(shelf.tell(rule_in("even s(x0)")), 5)
        self.told(shelf.standing(), [])
        self.told(shelf.names(), ["again", "en", "on"])
        self.told(len(shelf), 3)
        self.told(shelf.chart("en"), EVEN_IS_NAT)
        shelf.untell(5)
        self.told(shelf.standing(), ["again", "en", "on"])

    def test_a_chart_falls_alone(self):
        shelf = even_odd()
        shelf.add("num", NUMBER)
        shelf.tell(rule_in("odd 0"))
        # Of odd there are two rules now: on splits by both, and en too.
        self.told(shelf.standing(), ["num"])
        shelf.undo()
        shelf.untell(0)
        self.told(shelf.standing(), [])
        shelf.tell(RULES[0])
        self.told(shelf.standing(), [])
        # The rules of nat are in another order now, so the uses tell others.
        shelf.add("new", chart_in("|- nat s(0)\nuse 0\nuse 1"))
        self.told(shelf.standing(), ["new"])

    def test_what_leans_on_what_fell_falls(self):
        shelf = Shelf([rule_in("a x0 if b x0"), rule_in("c x0 if d x0"), rule_in("b 0"), rule_in("d 0")])
        shelf.add("one", chart_in("b x0 |- a x0\nuse 0\nby"))
        shelf.add("two", chart_in("d x0 |- c x0\nuse 0\nby"))
        shelf.add("both", chart_in("b x0, d x0 |- a x0\ncut c x0\nlean two x0=x0\nlean one x0=x0"))
        shelf.add("far", chart_in("b x0, d x0 |- a x0\nlean both x0=x0"))
        self.told(shelf.standing(), ["both", "far", "one", "two"])
        shelf.untell(1)
        self.told(shelf.standing(), ["one"])
        self.refused(Leans, "both", shelf.add, "new", chart_in("b x0, d x0 |- a x0\nlean both x0=x0"))
        shelf.add("other", chart_in("b x0 |- a x0\nlean one x0=x0"))
        self.told(shelf.standing(), ["one", "other"])
        shelf.undo()
        shelf.undo()
        self.told(shelf.standing(), ["both", "far", "one", "two"])


class Add(Case):
    def test_known(self):
        shelf = even_odd()
        before = all_of(shelf)
        for chart in [EVEN_IS_NAT, NUMBER, chart_in("|- nat 0"), chart_in("|- nat 0\nlean zz -")]:
            self.refused(Known, "en", shelf.add, "en", chart)
        self.told(all_of(shelf), before)

    def test_too_many(self):
        for most in range(4):
            shelf = Shelf(RULES, most=most)
            for k in range(most):
                shelf.add("abc"[k], BY)
            self.refused(TooMany, most, shelf.add, "z", BY)
            self.refused(TooMany, most, shelf.add, "z", chart_in("|- nat 0\nlean zz -"))
            self.told(len(shelf), most)
        shelf = Shelf(RULES)
        for k in range(8):
            shelf.add("abcdefgh"[k], BY)
        self.told(SHELF, 8)
        self.refused(TooMany, 8, shelf.add, "z", BY)
        self.told(len(shelf), 8)
        shelf.drop("c")
        shelf.add("z", BY)
        self.told(shelf.names(), ["a", "b", "d", "e", "f", "g", "h", "z"])

    def test_known_ahead_of_too_many(self):
        shelf = Shelf(RULES, most=1)
        shelf.add("a", BY)
        self.refused(Known, "a", shelf.add, "a", BY)
        self.refused(TooMany, 1, shelf.add, "b", BY)

    def test_leans(self):
        shelf = even_odd()
        self.refused(Leans, "abc", shelf.add, "new", chart_in("|- nat 0\nlean zz -\nlean abc -\nlean en -"))
        self.refused(Leans, "new", shelf.add, "new", chart_in("nat x0 |- nat x0\nlean new x0=x0"))
        self.refused(Leans, "zz", shelf.add, "new", chart_in("|- nat 0\nuse 77\nlean zz -"))
        shelf.tell(rule_in("even s(x0)"))
        self.refused(Leans, "en", shelf.add, "new", chart_in("even x0 |- nat x0\nlean en x0=x0"))
        shelf.undo()
        shelf.add("new", chart_in("even x0 |- nat x0\nlean en x0=x0"))
        self.told(shelf.leans("new"), ["en"])

    def test_bad_chart_and_not_let_by(self):
        shelf = even_odd()
        before = all_of(shelf)
        self.refused(BadChart, 0, shelf.add, "new", chart_in("|- nat 0"))
        self.refused(BadChart, 1, shelf.add, "new", chart_in("|- nat 0\nuse 0\nby"))
        self.refused(BadChart, 0, shelf.add, "new", chart_in("odd x0 |- nat x0\nlean en x0=x0"))
        # Neither right nor let by.
        self.refused(BadChart, 2, shelf.add, "new", chart_in("nat x0 |- even x0\ncut nat x0\nback 0 x0=x0\nby"))
        with self.assertRaises(RingError) as caught:
            shelf.add("new", chart_in("nat x0 |- even x0\nback 0 x0=x0"))
        self.assertIs(type(caught.exception), NotLetBy)
        self.told(shows_round(Definitions(RULES), chart_in("nat x0 |- even x0\nback 0 x0=x0"), caught.exception.what), True)
        self.told(all_of(shelf), before)

    def test_by_the_sayings_of_what_stands(self):
        shelf = Shelf(RULES)
        shelf.add("b", BY)
        shelf.add("on", ON_BY)
        shelf.add("so", chart_in("nat 0 |- nat 0\nlean on x3=0"))
        self.refused(BadChart, 0, shelf.add, "no", chart_in("nat 0 |- nat 0\nlean on x0=0"))

    def test_keeps_the_chart_and_nothing_is_changed(self):
        kept = deepcopy((EVEN_IS_NAT, ON))
        shelf = even_odd()
        shelf.drop("again")
        shelf.undo()
        self.told((EVEN_IS_NAT, ON), kept)
        self.told(shelf.chart("en"), EVEN_IS_NAT)


class Drop(Case):
    def test_unknown(self):
        self.refused(Unknown, "zz", Shelf().drop, "zz")
        self.refused(Unknown, "zz", even_odd().drop, "zz")

    def test_leant(self):
        shelf = even_odd()
        before = all_of(shelf)
        self.refused(Leant, "on", shelf.drop, "en")
        self.refused(Leant, "again", shelf.drop, "on")
        self.told(all_of(shelf), before)
        shelf.drop("again")
        shelf.drop("on")
        shelf.drop("en")
        self.told((shelf.names(), len(shelf)), ([], 0))

    def test_leant_by_the_first_one_rising(self):
        shelf = Shelf(RULES)
        shelf.add("b", BY)
        for name in ["zz", "m", "c", "d"]:
            shelf.add(name, ON_BY)
        self.refused(Leant, "c", shelf.drop, "b")
        shelf.drop("c")
        self.refused(Leant, "d", shelf.drop, "b")

    def test_leant_by_what_fell_too(self):
        shelf = even_odd()
        shelf.tell(rule_in("even s(x0)"))
        self.refused(Leant, "on", shelf.drop, "en")

    def test_dropped_and_told_again(self):
        shelf = even_odd()
        shelf.add("b", BY)
        shelf.drop("b")
        self.refused(Unknown, "b", shelf.chart, "b")
        shelf.add("num", NUMBER)
        shelf.add("b", NUMBER)
        self.told([name for name, _ in shelf.charts()], ["en", "on", "again", "num", "b"])
        self.told(shelf.chart("b"), NUMBER)
        for _ in range(3):
            self.told(shelf.undo(), True)
        self.told(shelf.chart("b"), BY)
        self.told([name for name, _ in shelf.charts()], ["en", "on", "again", "b"])

    def test_a_chart_put_where_it_was(self):
        shelf = even_odd()
        shelf.add("b", BY)
        shelf.add("num", NUMBER)
        shelf.drop("b")
        shelf.undo()
        self.told([name for name, _ in shelf.charts()], ["en", "on", "again", "b", "num"])


class Undo(Case):
    def test_each_deed(self):
        shelf = even_odd()
        before = all_of(shelf)
        for deed in [lambda: shelf.tell(LESS_RULE), lambda: shelf.untell(0), lambda: shelf.untell(4), lambda: shelf.untell(2),
                     lambda: shelf.add("b", BY), lambda: shelf.drop("again")]:
            deed()
            self.assertNotEqual(all_of(shelf), before)
            self.told(shelf.undo(), True)
            self.told(all_of(shelf), before)

    def test_one_after_the_other_till_there_is_none(self):
        shelf = Shelf(RULES)
        told = [all_of(shelf)]
        for deed in [lambda: shelf.add("en", EVEN_IS_NAT), lambda: shelf.tell(LESS_RULE), lambda: shelf.add("b", BY), lambda: shelf.untell(1),
                     lambda: shelf.drop("en"), lambda: shelf.untell(0), lambda: shelf.add("en", BY)]:
            deed()
            told.append(all_of(shelf))
        for wanted in told[:-1][::-1]:
            self.told(shelf.undo(), True)
            self.told(all_of(shelf), wanted)
        for _ in range(3):
            self.told(shelf.undo(), False)
            self.told(all_of(shelf), told[0])

    def test_what_was_undone_is_gone(self):
        shelf = even_odd()
        shelf.add("b", BY)
        shelf.undo()
        shelf.tell(LESS_RULE)
        self.told(shelf.undo(), True)
        self.told(shelf.undo(), True)
        self.told(shelf.names(), ["en", "on"])

    def test_the_rules_and_charts_of_the_beginning_stay(self):
        shelf = Shelf(RULES)
        self.told(shelf.undo(), False)
        self.told(shelf.definitions().all_rules(), RULES)

    def test_behind_a_refusal(self):
        shelf = even_odd()
        for kind, what, call, *handed in [(Known, "en", shelf.add, "en", BY), (Leant, "on", shelf.drop, "en"), (NoRule, 9, shelf.untell, 9),
                                          (Clash, "nat", shelf.tell, rule_in("nat x0 x1")), (Unknown, "zz", shelf.drop, "zz")]:
            self.refused(kind, what, call, *handed)
        self.told(shelf.undo(), True)
        self.told(shelf.names(), ["en", "on"])

    def test_a_chart_that_fell_is_put_back_and_stands_no_more(self):
        shelf = even_odd()
        shelf.drop("again")
        shelf.tell(rule_in("even s(x0)"))
        shelf.undo()
        shelf.undo()
        self.told(shelf.standing(), ["again", "en", "on"])


class Twin(Case):
    def test_the_same_and_of_its_own(self):
        shelf = even_odd()
        twin = shelf.twin()
        self.told(all_of(twin), all_of(shelf))
        twin.drop("again")
        twin.tell(LESS_RULE)
        self.told(all_of(shelf), all_of(even_odd()))
        shelf.add("b", BY)
        shelf.untell(0)
        self.told(twin.names(), ["en", "on"])
        self.told(twin.definitions().all_rules(), [*RULES, LESS_RULE])

    def test_what_can_be_undone(self):
        shelf = even_odd()
        twin = shelf.twin()
        for _ in range(3):
            self.told(twin.undo(), True)
        self.told(twin.undo(), False)
        self.told(len(twin), 0)
        self.told(len(shelf), 3)
        self.told(shelf.undo(), True)
        self.told(shelf.names(), ["en", "on"])

    def test_most(self):
        shelf = Shelf(RULES, most=1)
        twin = shelf.twin()
        twin.add("a", BY)
        self.refused(TooMany, 1, twin.add, "b", BY)
        self.told(len(shelf), 0)
        shelf.add("b", BY)

    def test_two_to_which_the_same_was_done(self):
        self.told(all_of(even_odd()), all_of(even_odd()))


def drawn_deed(draw, names):
    """The word of a deed, and what it takes."""
    word = draw.choice(["tell", "untell", "add", "add", "add", "add", "drop", "undo", "undo"])
    if word == "tell":
        return (word, draw.choice([*RULES, LESS_RULE, rule_in("even s(x0)"), rule_in("nat x0 x1"), rule_in("odd 0")]))
    if word == "untell":
        return (word, draw.randrange(-1, 8))
    if word == "add":
        leaning = [("en", EVEN_IS_NAT), ("on", ON), ("c", AGAIN), ("d", TWICE), ("b", BY), ("e", ON_BY), ("f", NUMBER), ("a", ODD_IS_NAT),
                   ("b", EVEN_IS_NAT), ("e", chart_in("nat x0 |- even x0\nback 0 x0=x0")), ("f", chart_in("|- nat 0"))]
        return (word, *draw.choice(leaning))
    return (word, draw.choice(["en", "on", "b", "c", "d", "e", "f", "zz"])) if word == "drop" else (word,)


def call(shelf, deed):
    return getattr(shelf, deed[0])(*deed[1:])


def stands_by(defs, charts):
    """The names of those that stand, as worded: all on which it leans stand, and it's let by, by the sayings of these."""
    standing = []
    more = True
    while more:
        known = [(name, chart[0]) for name, chart in charts if name in standing]
        more = [name for name, chart in charts if name not in standing and set(leaned(chart)) <= set(standing)
                and is_let_by(defs, chart, known=known)]
        standing += more
    return sorted(standing)


class Drawn(Case):
    def test_as_if_what_was_undone_had_never_been(self):
        refusals = {}
        for seed in range(60):
            draw = Random(seed)
            shelf = Shelf(RULES if seed % 3 else [], most=draw.choice([8, 8, 3]))
            done = []
            for _ in range(60):
                deed = drawn_deed(draw, shelf.names())
                before = all_of(shelf)
                try:
                    told = call(shelf, deed)
                except RingError as refusal:
                    refusals[type(refusal).__name__] = refusals.get(type(refusal).__name__, 0) + 1
                    self.told(all_of(shelf), before)
                    continue
                if deed != ("undo",):
                    done.append(deed)
                else:
                    self.told(told, done != [])
                    del done[-1:]
            other = Shelf(RULES if seed % 3 else [])
            for deed in done:
                call(other, deed)
            self.told(all_of(other), all_of(shelf))
            self.told(shelf.standing(), stands_by(shelf.definitions(), shelf.charts()))
            self.told(all_of(shelf.twin()), all_of(shelf))
            known = [(name, shelf.saying(name)) for name in shelf.standing()]
            for name in shelf.standing():
                self.told(is_let_by(shelf.definitions(), shelf.chart(name), known=known), True)
                self.told(set(shelf.leans(name)) <= set(shelf.standing()), True)
                put = put_in(shelf.chart(name), shelf.charts())
                self.told(is_let_by(shelf.definitions(), put), True)
                self.told(put[0], shelf.saying(name))
        self.assertEqual(sorted(refusals), ["BadChart", "Clash", "Known", "Leans", "Leant", "NoRule", "NotLetBy", "TooMany", "Unknown"])


if __name__ == "__main__":
    unittest.main()

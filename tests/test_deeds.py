import unittest
from copy import deepcopy
from random import Random

from helper import Case, odd_things
from ringproofs.charttexts import chart_in
from ringproofs.deeds import do
from ringproofs.errors import (BadChart, BadDeed, Clash, Known, Leans, Leant, NoRule, NotLetBy, RingError, TooMany, Unknown)
from ringproofs.ruletexts import rule_in
from ringproofs.shelf import Shelf
from test_charts import EVEN_IS_NAT
from test_shelf import BY, LESS_RULE, NUMBER, ON_BY, RULES, all_of, call, drawn_deed, even_odd
from test_together import ON

TELLS = [("tell", rule) for rule in RULES]
ADDS = [("add", "en", EVEN_IS_NAT), ("add", "on", ON)]


class Do(Case):
    def so(self, shelf, deeds, told, *logged):
        """That this is told, and logged behind what was logged."""
        before = shelf.log()
        self.told(do(shelf, deeds), told)
        self.told(shelf.log(), [*before, *logged])
        self.told(shelf.is_open(), True)

    def stopped(self, shelf, deeds, done, kind, what):
        """That just so many deeds are done, and then do is refused by this."""
        other = shelf.twin()
        before = shelf.log()
        self.refused(kind, what, do, shelf, deeds)
        for deed in deeds[:done]:
            call(other, deed)
        self.told(all_but_log(shelf), all_but_log(other))
        self.told(shelf.log(), [*before, ("in", len(deeds)), *[deed[0] for deed in deeds[:done]], ("out", done)])
        self.told(shelf.is_open(), True)
        self.told(do(shelf, [("undo",)]), [done > 0 or other.undo()])

    def test_all_deeds(self):
        shelf = Shelf()
        self.so(shelf, TELLS, [0, 1, 2, 3, 4], ("in", 5), "tell", "tell", "tell", "tell", "tell", ("out", 5))
        self.so(shelf, ADDS, [None, None], ("in", 2), "add", "add", ("out", 2))
        self.so(shelf, [("tell", LESS_RULE), ("untell", 5), ("drop", "on"), ("undo",)], [5, None, None, True],
                ("in", 4), "tell", "untell", "drop", "undo", ("out", 4))
        self.told(shelf.names(), ["en", "on"])
        self.told(shelf.definitions().all_rules(), RULES)

    def test_bare(self):
        shelf = even_odd()
        before = all_of(shelf)[:-3]
        self.so(shelf, [], [], ("in", 0), ("out", 0))
        self.so(shelf, (), [], ("in", 0), ("out", 0))
        self.told(all_of(shelf)[:-3], before)
        self.told(shelf.log(), [("in", 0), ("out", 0)] * 2)

    def test_undo_that_finds_none_is_logged_too(self):
        shelf = Shelf(RULES)
        self.so(shelf, [("undo",), ("tell", LESS_RULE), ("undo",), ("undo",)], [False, 5, True, False],
                ("in", 4), "undo", "tell", "undo", "undo", ("out", 4))

    def test_undo_within_takes_back_what_was_ahead(self):
        shelf = even_odd()
        self.so(shelf, [("drop", "again"), ("undo",), ("undo",), ("undo",)], [None, True, True, True],
                ("in", 4), "drop", "undo", "undo", "undo", ("out", 4))
        self.told(shelf.names(), ["en"])

    def test_the_same_as_one_by_one(self):
        shelf, other = Shelf(), Shelf()
        told = do(shelf, [*TELLS, *ADDS, ("drop", "on"), ("undo",)])
        self.told(told, [call(other, deed) for deed in [*TELLS, *ADDS, ("drop", "on"), ("undo",)]])
        self.told(all_but_log(shelf), all_but_log(other))
        self.told(other.log(), [])

    def test_deeds_by_themselves_are_not_logged(self):
        shelf = even_odd()
        shelf.undo()
        self.told(shelf.log(), [])

    def test_refused_at_the_first_in_the_middle_and_at_the_last(self):
        bad = ("add", "en", BY)
        for at in range(4):
            deeds = [("tell", LESS_RULE), ("add", "b", BY), ("drop", "again")]
            deeds.insert(at, bad)
            self.stopped(even_odd(), deeds, at, Known, "en")

    def test_each_refusal(self):
        for deed, kind, what in [
                (("tell", rule_in("nat x0 x1")), Clash, "nat"), (("untell", 5), NoRule, 5), (("untell", -1), NoRule, -1),
                (("add", "en", EVEN_IS_NAT), Known, "en"), (("add", "zz", chart_in("|- nat 0\nlean zz -")), Leans, "zz"),
                (("add", "zz", chart_in("|- nat 0")), BadChart, 0), (("drop", "zz"), Unknown, "zz"), (("drop", "en"), Leant, "on"),
                (("add", "zz", chart_in("nat x0 |- even x0\nback 0 x0=x0")), NotLetBy, [0])]:
            self.stopped(even_odd(), [deed], 0, kind, what)
            self.stopped(even_odd(), [("undo",), ("add", "num", NUMBER), deed, ("undo",)], 2, kind, what)
        self.stopped(Shelf(RULES, most=0), [("add", "b", BY)], 0, TooMany, 0)
        self.stopped(Shelf(RULES, most=2), [("add", "b", BY), ("add", "on", ON_BY), ("add", "c", BY)], 2, TooMany, 2)

    def test_what_is_done_behind_a_refusal_of_before(self):
        shelf = Shelf(RULES)
        self.refused(BadChart, 0, do, shelf, [("add", "b", BY), ("add", "c", chart_in("|- nat 0"))])
        self.so(shelf, [("add", "c", ON_BY)], [None], ("in", 1), "add", ("out", 1))
        self.told(shelf.log(), [("in", 2), "add", ("out", 1), ("in", 1), "add", ("out", 1)])
        self.told(shelf.standing(), ["b", "c"])

    def test_own_lists_and_nothing_is_changed(self):
        shelf = even_odd()
        deeds = [("tell", LESS_RULE), ("add", "b", BY)]
        kept = deepcopy(deeds)
        told = do(shelf, deeds)
        told.append("more")
        deeds.append(("undo",))
        self.told(deeds[:-1], kept)
        self.asked_twice(shelf.log)
        self.told(shelf.log(), [("in", 2), "tell", "add", ("out", 2)])
        first, second = Shelf(), Shelf()
        self.told(do(first, TELLS) is do(second, TELLS), False)

    def test_a_twin(self):
        shelf = even_odd()
        do(shelf, [("tell", LESS_RULE)])
        twin = shelf.twin()
        self.told(twin.log(), [("in", 1), "tell", ("out", 1)])
        self.told(twin.is_open(), True)
        do(twin, [("undo",)])
        self.told(shelf.log(), [("in", 1), "tell", ("out", 1)])
        self.told(twin.log(), [("in", 1), "tell", ("out", 1), ("in", 1), "undo", ("out", 1)])
        self.told(shelf.undo(), True)
        self.told(shelf.log(), [("in", 1), "tell", ("out", 1)])
        self.told(all_but_log(twin), all_but_log(shelf))

    def test_is_open(self):
        class Watched(Shelf):
            def tell(self, rule):
                seen.append((self.is_open(), self.log()))
                if rule is None:
                    raise KeyError
                return Shelf.tell(self, rule)

        seen = []
        shelf = Watched()
        self.told(shelf.is_open(), True)
        shelf.tell(RULES[0])
        do(shelf, [("undo",), *TELLS[:1]])
        self.assertRaises(KeyError, do, shelf, [("tell", RULES[1]), ("tell", None), ("undo",)])
        first = [("in", 2), "undo", "tell", ("out", 2)]
        self.told(seen, [(True, []), (False, first[:2]), (False, [*first, ("in", 3)]), (False, [*first, ("in", 3), "tell"])])
        self.told(shelf.is_open(), True)
        self.told(shelf.log(), [*first, ("in", 3), "tell", ("out", 1)])

    def test_by_name(self):
        shelf = Shelf()
        self.told(do(deeds=TELLS[:1], shelf=shelf), [0])
        self.refused(BadDeed, 0, do, deeds=[()], shelf=shelf)


def all_but_log(shelf):
    told = all_of(shelf)
    return told[:5] + told[6:]


class Bad(Case):
    NONE = [(), ("tell",), ("undo", 1), ("undo", "undo"), ("tell", RULES[0], 0), ("untell",), ("untell", 0, 0), ("add", "b"), ("add", BY),
            ("add", "b", BY, 0), ("drop",), ("drop", "b", "c"), ("names",), ("log",), ("twin",), ("", 0), ("Undo",), ("do", []), "undo",
            ["undo"], [], None, 0, True, ("undo ",), (("undo",),), (["undo"],), (None,), (0,), ([],), ((),), ("chart", "en"), ("is_open",)]

    def test_bad_deeds(self):
        for deed in self.NONE:
            with self.subTest(repr(deed)):
                shelf = even_odd()
                before = all_of(shelf)
                self.refused(BadDeed, 0, do, shelf, [deed])
                self.refused(BadDeed, 0, do, shelf, [deed, ("undo",)])
                self.refused(BadDeed, 2, do, shelf, [("undo",), ("undo",), deed, ("undo",)])
                self.refused(BadDeed, 1, do, shelf, (("drop", "zz"), deed, (), ("undo",)))
                self.told(all_of(shelf), before)

    def test_odd_things(self):
        shelf = even_odd()
        for thing in odd_things():
            self.refused(BadDeed, 1, do, shelf, [("undo",), thing])
        self.told(all_of(shelf), all_of(even_odd()))

    def test_ahead_of_all(self):
        shelf = Shelf(RULES, most=0)
        self.refused(BadDeed, 3, do, shelf, [("add", "b", BY), ("drop", "zz"), ("untell", 99), ("tell",), ()])
        self.told(shelf.log(), [])
        self.told(shelf.is_open(), True)


class Drawn(Case):
    def test_rows_of_deeds(self):
        stopped = 0
        for seed in range(60):
            draw = Random(seed)
            shelf, other = Shelf(RULES), Shelf(RULES)
            log = []
            for _ in range(12):
                deeds = [drawn_deed(draw, []) for _ in range(draw.randrange(6))]
                told, refusal = [], None
                for deed in deeds:
                    try:
                        told.append(call(other, deed))
                    except RingError as one:
                        refusal = one
                        break
                if refusal is None:
                    self.told(do(shelf, deeds), told)
                else:
                    stopped += 1
                    self.refused(type(refusal), refusal.what, do, shelf, deeds)
                log += [("in", len(deeds)), *[deed[0] for deed in deeds[:len(told)]], ("out", len(told))]
                self.told(shelf.log(), log)
                self.told(shelf.is_open(), True)
                self.told(all_but_log(shelf), all_but_log(other))
        self.assertGreater(stopped, 100)


if __name__ == "__main__":
    unittest.main()

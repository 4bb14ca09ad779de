import unittest
from copy import deepcopy
from random import Random

from helper import EVEN, NAT, NUMBERS, ROUND, Case, steps
from plaincharts import drawn_saying
from plainly import drawn_definitions
from plainwalks import plain_search, plain_tries
from ringproofs.charts import lines
from ringproofs.charttexts import chart_in, step_text
from ringproofs.definitions import Definitions
from ringproofs.deftexts import definitions_in
from ringproofs.premises import premises
from ringproofs.rounds import is_let_by
from ringproofs.ruletexts import rule_in
from ringproofs.sayings import comes_of
from ringproofs.sayingtexts import saying_in
from ringproofs.search import search, tries
from ringproofs.straight import is_straight
from ringproofs.termtexts import binding_in
from ringproofs.worlds import first_world
from test_charts import EVEN_IS_NAT, PAIR
from test_judgement import ABOUT_FORKS, ABOUT_NUMBERS, FORKS


class Search(Case):
    def finds(self, text, *rows, most=6, defs=NUMBERS, **named):
        """That this chart is told, and none of fewer lines."""
        chart = chart_in("\n".join([text, *rows]))
        self.told(search(defs, chart[0], most, **named), ("chart", chart))
        self.told(search(defs, chart[0], len(rows), **named), ("chart", chart))
        self.told(search(defs, chart[0], len(rows) - 1, **named), ("none", len(rows) - 1))
        self.told(is_let_by(defs, chart), True)
        self.told(is_straight(lines(defs, chart)), True)

    def test_ordinary(self):
        self.finds("even x0 |- nat x0", "split 0", "use 0", "split 0", "use 1", "use 1", "back 0 x0=x2")
        self.finds("odd x0 |- nat x0", "split 0", "use 1", "split 0", "use 0", "use 1", "back 0 x0=x2")
        self.finds("nat x0 |- less x0 s(x0)", "split 0", "use 0", "use 1", "back 0 x0=x1")
        self.finds("less x0 x1 |- nat x0", "split 0", "use 0", "use 1", "back 0 x0=x2 x1=x3")
        self.finds("less x0 x1, less x1 x2 |- less x0 x2", "split 0", "split 0", "use 0", "split 1", "use 1",
                   "back 0 x0=x3 x1=x4 x2=x5")

    def test_one_line(self):
        self.finds("nat x0 |- nat x0", "by")
        self.finds("nat x0, even x0 |- even x0", "by")
        self.finds("none x0 |- nat x0", "split 0")
        self.finds("even x0, none x0 |- nat x0", "split 1")
        self.finds("|- nat 0", "use 0")
        self.finds("|- less 0 s(x5)", "use 0")

    def test_by_ahead_of_all(self):
        self.finds("nat 0 |- nat 0", "by")
        self.finds("none x0, nat 0 |- nat 0", "by")

    def test_back_ahead_of_split_and_use(self):
        defs = definitions_in("n x0 if n x0\nm x0 if n x0")
        # Line 1 may go back to line 0, or be split once more and then go back.
        self.finds("n x0 |- n s(x0)", "split 0", "back 0 x0=x0", defs=defs)
        self.finds("n x0 |- m s(x0)", "split 0", "back 0 x0=x0", defs=defs)

    def test_split_ahead_of_use(self):
        # Both ways are of as many lines.
        self.finds("e x0 |- g 0", "split 0", defs=definitions_in("g 0"))
        defs = definitions_in("a x0 if c x0\nc x0 if d x0\nd 0")
        self.finds("a x0, d x0 |- c x0", "split 0", "by", defs=defs)
        self.finds("d x0 |- c x0", "use 0", "by", defs=defs)

    def test_the_first_of_several(self):
        defs = definitions_in("e x0 if e x0\ng x0 if g x0")
        self.finds("e x0, g x0 |- h x0", "split 0", "back 0 x0=x0", defs=defs)
        self.finds("g x0, e x0 |- h x0", "split 0", "back 0 x0=x0", defs=defs)
        self.finds("o x0, o x1 |- h x0", "split 0", defs=defs)
        # Of two BINDINGs by which the hyp that falls goes round, the one of the lesser text.
        defs = definitions_in("e x0 if e x0")
        self.finds("e x1, e x2 |- h 0", "split 0", "back 0 x1=x1 x2=x1", defs=defs)
        defs = definitions_in("z x0\nz x0 if z x0")
        self.finds("|- z x0", "use 0", defs=defs)

    def test_a_way_that_does_not_fall_is_not_taken(self):
        defs = definitions_in("z s(x0) if z x0\nz x0 if z x0\nz 0\ny 0")
        self.finds("|- z s(0)", "use 0", "use 1", defs=definitions_in("z s(x0) if z x0\nz 0"))
        self.finds("|- z s(0)", "use 0", "use 2", defs=defs)
        self.told(search(defs, saying_in("y x0 |- z s(x0)"), 6)[0], "chart")
        self.told(search(definitions_in("z x0 if z x0"), saying_in("y 0 |- z 0"), 6, size=1), ("chart", chart_in("y 0 |- z 0\nsplit 0")))
        self.told(search(definitions_in("z x0 if z x0"), saying_in("|- z 0"), 6), ("world", ()))

    def test_no_chart(self):
        for most in range(7):
            self.told(search(NUMBERS, saying_in("less x0 x1 |- nat x1"), most), ("none", most))
        self.told(search(NUMBERS, saying_in("even x0 |- nat x0"), 5), ("none", 5))
        self.told(search(NUMBERS, saying_in("nat x0 |- nat x0"), 0), ("none", 0))

    def test_world(self):
        self.told(search(NUMBERS, saying_in("nat x0 |- even x0"), 6), ("world", binding_in("x0=s(0)")))
        self.told(search(NUMBERS, saying_in("nat x0 |- odd x0"), 6), ("world", binding_in("x0=0")))
        self.told(search(NUMBERS, saying_in("nat x0, nat x4 |- less x0 x4"), 6), ("world", binding_in("x0=0 x4=0")))
        self.told(search(NUMBERS, saying_in("|- odd 0"), 6), ("world", ()))
        self.told(search(Definitions(), saying_in("|- odd x0"), 0), ("world", binding_in("x0=0")))

    def test_a_world_of_just_so_many_signs_and_of_one_more(self):
        # What has fewer signs doesn't bar it: either the hyp doesn't hold, or the goal does.
        for signs, text, rules in [(1, "nat x0 |- odd x0", ""), (2, "odd x0 |- even x0", ""), (3, "even x0 |- two x0", "\ntwo 0"),
                                   (4, "odd x0 |- two x0", "\ntwo s(x0) if zero x0\nzero 0")]:
            defs = definitions_in(NAT + "\n" + EVEN + rules)
            told = search(defs, saying_in(text), 2, size=signs)
            self.told(told, ("world", ((0, steps(signs - 1)),)))
            if signs > 1:
                self.told(search(defs, saying_in(text), 2, size=signs - 1), ("none", 2))

    def test_size_left_out_is_three(self):
        saying = saying_in("nat x0 |- thr x0")
        three = definitions_in(NAT + "\nthr 0\nthr s(x0) if one x0\none 0\none s(x0) if zero x0\nzero 0")
        self.told(first_world(three, saying, 3), None)
        self.told(search(three, saying, 2), ("none", 2))
        self.told(search(three, saying, 2, size=3), ("none", 2))
        self.told(search(three, saying, 2, size=4), ("world", binding_in("x0=s(s(s(0)))")))
        two = definitions_in(NAT + "\nthr 0\nthr s(x0) if one x0\none 0")
        self.told(search(two, saying, 2), ("world", binding_in("x0=s(s(0))")))
        self.told(search(two, saying, 2, size=2), ("none", 2))

    def test_most_of_one_and_of_six(self):
        self.told(search(NUMBERS, saying_in("nat x0 |- nat x0"), 1), ("chart", chart_in("nat x0 |- nat x0\nby")))
        self.told(search(NUMBERS, saying_in("even x0 |- nat x0"), 1), ("none", 1))
        self.told(search(NUMBERS, saying_in("even x0 |- nat x0"), 6)[0], "chart")
        self.finds("a x0 |- b x0", "use 0", "use 0", "use 0", "use 0", "use 1", "by", defs=definitions_in(ROUND))

    def test_four_hyps(self):
        for text in ["less x0 x1, less x1 x0, even x0, odd x1 |- nat f(x0,x1)", "even x0, odd x1, less x0 x1, nat x1 |- nat s(f(x0,x1))"]:
            saying = saying_in(text)
            self.told(search(NUMBERS, saying, 6)[0] in ("none", "world"), True)
        self.finds("nat x0, nat x1, even x0, odd x1 |- nat s(s(x1))", "use 1", "use 1", "by")

    def test_as_worded(self):
        found = {}
        for seed in range(500):
            draw = Random(seed)
            defs = drawn_definitions(seed)
            saying = drawn_saying(draw, defs, [0, 1], 3, 2)
            if seed % 5 == 0:
                defs, sayings = [(NUMBERS, ABOUT_NUMBERS), (FORKS, ABOUT_FORKS)][seed % 2]
                saying = saying_in(sayings[seed // 5 % len(sayings)])
            told = search(defs, saying, 4, size=2)
            world = first_world(defs, saying, 2)
            if world is None:
                chart = plain_search(defs, saying, 4)
                self.told(told, ("none", 4) if chart is None else ("chart", chart))
            else:
                self.told(told, ("world", world))
            if told[0] == "chart":
                self.told(first_world(defs, saying, 4), None)
            key = (told[0], len(told[1][1]) if told[0] == "chart" else 0)
            found[key] = found.get(key, 0) + 1
        self.assertGreater(min(found[key] for key in [("chart", 1), ("chart", 2), ("chart", 3), ("none", 0), ("world", 0)]), 4)

    def test_rules_told_behind_and_the_same_again(self):
        defs = definitions_in(NAT + "\n" + EVEN)
        saying = saying_in("even x0 |- nat x0")
        kept = deepcopy(saying)
        first = search(defs, saying, 6)
        self.told(search(defs, saying, 6), first)
        defs.tell(rule_in("nat x0"))
        self.told(search(defs, saying, 6), ("chart", chart_in("even x0 |- nat x0\nuse 2")))
        defs.tell(rule_in("even x0"))
        self.told(search(defs, saying, 6), ("chart", chart_in("even x0 |- nat x0\nuse 2")))
        self.told(saying, kept)
        self.told(len(defs.all_rules()), 7)

    def test_by_name(self):
        told = search(size=3, most=6, saying=EVEN_IS_NAT[0], defs=NUMBERS)
        self.told(told, search(NUMBERS, EVEN_IS_NAT[0], 6))
        self.told(search(most=6, saying=EVEN_IS_NAT[0], defs=NUMBERS), told)
        self.assertRaises(TypeError, search, NUMBERS, EVEN_IS_NAT[0], 6, 3)


class Tries(Case):
    def so(self, text, done, *wanted, defs=NUMBERS):
        pairs = [(line, saying_in(other)) for line, other in done]
        told = tries(defs, saying_in(text), pairs)
        self.told([step_text(step) for step in told], list(wanted))
        self.told(tries(defs, saying_in(text), tuple(pairs)), told)

    def test_ordinary(self):
        self.so("even x0 |- nat x0", [], "split 0")
        self.so("|- nat 0", [], "use 0")
        self.so("|- nat s(x0)", [], "use 1")
        self.so("odd x1 |- nat s(x1)", [(0, "even x0 |- nat x0")], "split 0", "use 1")
        self.so("even x2 |- nat x2", [(0, "even x0 |- nat x0"), (2, "odd x1 |- nat s(x1)")], "back 0 x0=x2", "split 0")
        self.so("nat x0, even s(x0) |- nat s(x0)", [], "split 0", "split 1", "use 1")

    def test_all_in_their_order(self):
        defs = definitions_in("n 0\nn x0\nn x0 if n x0\nm x0")
        self.so("n 0, m x0 |- n 0", [(0, "|- n x5"), (3, "n 0 |- n 0"), (7, "m x1, m x2 |- n 0"), (9, "|- m x0")], "by", "back 0 x5=0",
                "back 3 -", "back 7 x1=x0 x2=x0", "split 0", "split 1", "use 0", "use 1", "use 2", defs=defs)

    def test_backs_by_lines_then_by_texts(self):
        self.so("n x1, n x10, n x9 |- m 0", [(2, "n x0 |- m 0"), (10, "n x5 |- m 0")], "back 2 x0=x1", "back 2 x0=x10", "back 2 x0=x9",
                "back 10 x5=x1", "back 10 x5=x10", "back 10 x5=x9", "split 0", "split 1", "split 2", defs=PAIR)

    def test_none(self):
        self.so("|- none 0", [])
        self.so("|- odd x0", [])
        self.so("nat x99 |- odd x0", [])

    def test_what_can_not_be_done_is_left_out(self):
        self.so("nat x98 |- nat 0", [], "split 0", "use 0")
        self.so("nat x99 |- nat 0", [], "use 0")
        self.so("nat x0, nat x1, nat x2, nat x3, nat x4, nat x5 |- q 0", [], "split 0", "split 1", "split 2", "split 3", "split 4",
                "split 5", "use 0", defs=definitions_in("q x0 if q x0\nnat x0 if nat x0"))
        self.so("q x0, nat x1, nat x2, nat x3, nat x4, nat x5 |- m 0", [], "split 1", "split 2", "split 3", "split 4", "split 5",
                defs=definitions_in("q x0 if nat x0, m x0"))

    def test_just_those_that_can_be_done(self):
        for seed in range(200):
            draw = Random(seed)
            defs = drawn_definitions(seed)
            saying = drawn_saying(draw, defs, [0, 1], 2, 3)
            done = [(2 * k, drawn_saying(draw, defs, [0, 1], 1, 1)) for k in range(3)] + [(7, saying)]
            told = tries(defs, saying, done)
            self.told(told, plain_tries(defs, saying, done))
            for step in told:
                if step[0] == "back":
                    self.assertTrue(comes_of(saying, dict(done)[step[1]], step[2]))
                premises(defs, saying, step)

    def test_own_lists_and_nothing_is_changed(self):
        done = [(0, saying_in("even x0 |- nat x0"))]
        self.asked_twice(tries, NUMBERS, saying_in("even x2 |- nat x2"), done)
        self.told(done, [(0, saying_in("even x0 |- nat x0"))])

    def test_by_name(self):
        self.told(tries(done=[], saying=saying_in("|- nat 0"), defs=NUMBERS), [("use", 0)])
        self.assertRaises(TypeError, tries, NUMBERS, saying_in("|- nat 0"))


if __name__ == "__main__":
    unittest.main()

import unittest
from copy import deepcopy
from random import Random

from helper import NUMBERS, Case
from plainwalks import plain_shorter
from ringproofs.charts import is_right, leaned
from ringproofs.charttexts import chart_in, chart_text
from ringproofs.deftexts import definitions_in
from ringproofs.errors import BadChart, NotLetBy, RingError
from ringproofs.rounds import is_let_by, shows_round
from ringproofs.sayingtexts import saying_in
from ringproofs.shorter import shorter
from test_charts import EVEN_IS_NAT, LESS_THAN_NEXT, ODD_IS_NAT, PAIR
from test_judgement import drawn_cases
from test_leaps import FOUR_GOALS, MACHINES
from test_papers import KNOWN, LEANING, ONLY_TOGETHER, WRONG
from test_rounds import NOT_LET_BY, TWICE
from test_walks import CUT

IDS = " x0=x0 x1=x1"


class Shorter(Case):
    def cut(self, text, *wanted, defs=NUMBERS, **named):
        """That it's cut so, of the same saying, let by, and that it can't be cut once more."""
        chart = chart_in(text)
        told = shorter(defs, chart, **named)
        self.told(chart_text(told), "\n".join([text.split("\n")[0], *wanted]))
        self.told(told, plain_shorter(defs, chart, named.get("known", ())))
        self.told(is_let_by(defs, told, **named), True)
        self.told(shorter(defs, told, **named), told)

    def test_nothing_to_be_cut(self):
        for chart in [EVEN_IS_NAT, ODD_IS_NAT, LESS_THAN_NEXT, chart_in("|- nat 0\nuse 0"), chart_in("nat x0 |- nat x0\nby")]:
            self.told(shorter(NUMBERS, chart), chart)

    def test_by(self):
        self.cut("nat x0 |- nat x0\nsplit 0\nuse 0\nuse 1\nby", "by")
        self.cut("nat x0 |- nat x0\nas nat x0 |- nat x0 ; x0=x0\nby", "by")
        self.cut("nat x0 |- nat s(s(x0))\nuse 1\nuse 1\nsplit 0\nuse 0\nuse 1\nby", "use 1", "use 1", "by")
        self.cut("nat x0, nat s(s(x0)) |- nat s(s(x0))\nuse 1\nuse 1\nby", "by")
        self.cut("nat x0, nat s(x0) |- nat s(s(x0))\nuse 1\nuse 1\nby", "use 1", "by")

    def test_by_in_the_place_of_a_line_of_back(self):
        self.cut("n x1, p x0 |- p x0\nsplit 0\nback 0" + IDS, "by", defs=PAIR)
        self.cut("n x1, p x0 |- q x0\ncut p x0\nsplit 0\nback 1" + IDS + "\nsplit 0\nback 0" + IDS, "split 0", "back 0" + IDS, defs=PAIR)

    def test_by_in_the_place_of_a_lean(self):
        known = [("abc", saying_in("|- p x0"))]
        self.cut("p x0 |- p x0\nlean abc x0=x0", "by", defs=PAIR, known=known)
        self.cut("n x0 |- p x0\nlean abc x0=x0", "lean abc x0=x0", defs=PAIR, known=known)
        self.cut("p x0 |- p x0\nuse 0\nlean abc x0=x0\nby", "by", defs=PAIR, known=tuple(known))

    def test_the_same_saying_twice_on_one_branch(self):
        self.cut("nat x0 |- less x0 s(x0)\nas nat x0 |- less x0 s(x0) ; x0=x0\nsplit 0\nuse 0\nuse 1\nback 1 x0=x1",
                 "split 0", "use 0", "use 1", "back 0 x0=x1")
        self.cut("nat x0 |- less x0 s(x0)\nas nat x0 |- less x0 s(x0) ; x0=x0\nsplit 0\nuse 0\nuse 1\nback 0 x0=x1",
                 "split 0", "use 0", "use 1", "back 0 x0=x1")
        rows = ["split 0", "use 0", "use 1", "back 0 x0=x1"]
        for many in range(1, 6):
            self.cut("\n".join(["nat x0 |- less x0 s(x0)", *["as nat x0 |- less x0 s(x0) ; x0=x0"] * many, *rows[:-1], "back 1 x0=x1"]),
                     *rows)

    def test_the_first_of_the_same_saying_alone_is_taken(self):
        # Line 0 can't be exchanged for line 1, as line 3 would be gone, and it isn't exchanged for line 3.
        text = "n x1 |- p x0\nuse 0\nsplit 0\nback 3" + IDS + "\nsplit 0\nback 3" + IDS
        self.cut(text, "use 0", "back 2" + IDS, "split 0", "back 2" + IDS, defs=PAIR)
        self.cut("n x1 |- p x0\nuse 0\nsplit 0\nback 0" + IDS + "\nsplit 0\nback 0" + IDS, "split 0", "back 0" + IDS, defs=PAIR)

    def test_what_goes_round_no_more_without_it(self):
        # Without the use nothing is left but the line of back itself, by which nothing falls.
        self.cut("n x1 |- m x0\nsplit 0\nback 0" + IDS, "split 0", "back 0" + IDS, defs=PAIR)
        self.cut("n x1 |- m x0\nsplit 0\nsplit 0\nback 0" + IDS, "split 0", "back 0" + IDS, defs=PAIR)

    def test_cuts_that_are_not_needed(self):
        self.cut("nat x0 |- nat s(x0)\ncut nat 0\nuse 0\nuse 1\nby", "use 1", "by")
        self.cut("nat x0 |- nat s(x0)\ncut nat x0\nby\nuse 1\nby", "use 1", "by")
        self.cut("nat x0 |- nat s(x0)\nuse 1\ncut nat s(x0)\nuse 1\nby\nby", "use 1", "by")

    def test_cuts_that_are_needed(self):
        self.told(shorter(NUMBERS, CUT), CUT)
        text = "nat x0 |- nat s(s(x0))\ncut nat s(x0)\nuse 1\nby\nuse 1\nby"
        # Needed as it's written: without it the last by doesn't do.
        self.cut(text, *text.split("\n")[1:])

    def test_what_went_back_to_the_cut_or_its_premise(self):
        for line in (0, 2):
            self.cut(f"nat x0 |- less x0 s(x0)\ncut nat x0\nby\nsplit 0\nuse 0\nuse 1\nback {line} x0=x1",
                     "split 0", "use 0", "use 1", "back 0 x0=x1")
        self.cut("nat x0 |- less x0 s(x0)\ncut nat 0\nuse 0\nsplit 0\nuse 0\nuse 1\nback 0 x0=x1", "split 0", "use 0", "use 1",
                 "back 0 x0=x1")
        # The premise has a hyp more than the cut's own saying, and what went back to it goes back to that one.
        self.cut("nat x0 |- less x0 s(x0)\ncut nat 0\nuse 0\nsplit 0\nuse 0\nuse 1\nback 2 x0=x1", "split 0", "use 0", "use 1",
                 "back 0 x0=x1")

    def test_backs_to_lines_that_would_be_gone(self):
        # By would do in the place of line 3, but line 1 goes back to line 4.
        defs = definitions_in("n x0 if n x0\nr x0 if p x0, p x0")
        rows = ["n x1 |- r x0", "cut p x0", "back 4" + IDS, "use 0", "as n x1 |- p x0 ;" + IDS, "split 0", "back 4" + IDS, "by"]
        self.cut("\n".join(rows), *rows[1:], defs=defs)
        # Line 1 has the saying of line 3, but line 5 goes back to line 2.
        defs = definitions_in("n x0 if n x0\np x0 if m x0\nm x0 if p x0\nr x0 if p x0, m x0")
        rows = ["n x1 |- r x0", "use 0", "use 0", "use 0", "split 0", "back 1" + IDS, "back 2" + IDS]
        self.cut("\n".join(rows), *rows[1:], defs=defs)
        rows[-1:] = ["use 0", "back 1" + IDS]
        self.cut("\n".join(rows), "use 0", "split 0", "back 1" + IDS, "use 0", "back 1" + IDS, defs=defs)
        # Line 0 would do without its cut, or exchanged for line 4, but line 5 goes back to line 1.
        defs = definitions_in("n x0 if n x0\np x0 if m x0\nm x0 if p x0")
        rows = ["n x1 |- p x0", "cut m x0", "split 0", "back 1" + IDS, "as n x1 |- p x0 ;" + IDS, "use 0", "back 1" + IDS]
        self.cut("\n".join(rows), *rows[1:], defs=defs)

    def test_two_ways_at_one_line(self):
        # By, and the same saying beneath: by is the first.
        self.cut("nat x0 |- nat x0\nas nat x0 |- nat x0 ; x0=x0\nsplit 0\nuse 0\nuse 1\nby", "by")
        # The line beneath of the same saying goes ahead of the cut's second premise, which would do, too.
        for first, second in [("split 0", "split 1"), ("split 1", "split 0")]:
            rows = ["n x1, n x2 |- p x0", "cut p x0", first, "back 1" + IDS + " x2=x2", second, "back 3" + IDS + " x2=x2"]
            self.cut("\n".join(rows), first, "back 0" + IDS + " x2=x2", defs=PAIR)

    def test_upper_lines_first(self):
        # At line 0 the whole chart is cut to what's beneath, ahead of what could be cut there.
        text = "nat x0 |- nat s(x0)\nas nat x0 |- nat s(x0) ; x0=x0\ncut nat 0\nuse 0\nuse 1\nby"
        self.cut(text, "use 1", "by")

    def judge(self, defs, chart):
        if not is_let_by(defs, chart):
            with self.assertRaises(RingError) as caught:
                shorter(defs, chart)
            self.assertIs(type(caught.exception), NotLetBy)
            self.told(shows_round(defs, chart, caught.exception.what), True)
            return False
        told = shorter(defs, chart)
        self.told(told, plain_shorter(defs, chart))
        self.told(told[0], chart[0])
        self.told(is_let_by(defs, told), True)
        self.assertLessEqual(len(told[1]), len(chart[1]))
        return told != chart

    def test_drawn_charts(self):
        shorter_ones = 0
        for defs, chart in drawn_cases(1600):
            shorter_ones += self.judge(defs, chart)
        self.assertGreater(shorter_ones, 10)

    def test_drawn_cuts(self):
        # Nearly all lines are of one saying: each may be exchanged for one beneath, if what goes back allows it.
        shorter_ones = 0
        for seed in range(800):
            draw = Random(seed)
            rows, todo = [], 1
            while todo:
                row = draw.choice(["split 0", "split 0", "use 0", "cut p x0", "back", "by"]) if len(rows) + todo < 9 else "back"
                todo += {"split 0": 0, "use 0": 1, "cut p x0": 1, "back": -1, "by": -1}[row]
                rows.append(row)
            rows = [f"back {draw.randrange(len(rows))}" + IDS if row == "back" else row for row in rows]
            chart = chart_in("\n".join(["n x1 |- p x0", *rows]))
            if is_right(PAIR, chart):
                shorter_ones += self.judge(PAIR, chart)
        self.assertGreater(shorter_ones, 40)

    def test_great(self):
        self.told(shorter(MACHINES, FOUR_GOALS), plain_shorter(MACHINES, FOUR_GOALS))

    def test_thirty_lines(self):
        text = "nat x0 |- nat x0\n" + "\n".join(["as nat x0 |- nat x0 ; x0=x0"] * 29 + ["by"])
        self.cut(text, "by")
        text = "nat x0 |- nat s(x0)\n" + "cut nat 0\nuse 0\n" * 14 + "use 1\nby"
        self.cut(text, "use 1", "by")


class Refused(Case):
    def test_bad_chart(self):
        for chart, line in WRONG:
            self.refused(BadChart, line, shorter, NUMBERS, chart)
        self.refused(BadChart, 1, shorter, PAIR, LEANING)
        # Neither right nor let by.
        self.refused(BadChart, 2, shorter, PAIR, chart_in("p x0 |- p x0\nuse 0\nback 0 x0=x0\nback 7 x0=x0"))

    def test_not_let_by(self):
        for defs, chart in [*[(NUMBERS, chart) for chart in NOT_LET_BY], (MACHINES, TWICE), (MACHINES, ONLY_TOGETHER)]:
            with self.assertRaises(RingError) as caught:
                shorter(defs, chart)
            self.assertIs(type(caught.exception), NotLetBy)
            self.told(shows_round(defs, chart, caught.exception.what), True)
        self.refused(NotLetBy, [2], shorter, PAIR, LEANING, known=KNOWN)

    def test_not_let_by_though_cut_it_would_be(self):
        self.refused(NotLetBy, [0], shorter, NUMBERS, chart_in("nat x0 |- nat x0\nback 0 x0=x0"))


class Kept(Case):
    def test_leans(self):
        known = [("abc", saying_in("|- p x0")), ("z", saying_in("n x5 |- m x5"))]
        chart = chart_in("n x1 |- p x0\ncut m x1\nlean z x5=x1\nuse 0\nlean abc x0=x0\nsplit 0\nback 0" + IDS)
        told = shorter(PAIR, chart, known=known)
        self.told(told, plain_shorter(PAIR, chart, known))
        self.told(set(leaned(told)) <= {"abc", "z"}, True)
        self.refused(BadChart, 1, shorter, PAIR, chart)

    def test_the_same_again_and_nothing_is_changed(self):
        chart = chart_in("nat x0 |- nat s(x0)\ncut nat 0\nuse 0\nuse 1\nby")
        kept = deepcopy(chart)
        self.told(shorter(NUMBERS, chart), shorter(NUMBERS, chart))
        self.told(chart, kept)

    def test_by_name(self):
        self.told(shorter(chart=EVEN_IS_NAT, defs=NUMBERS), EVEN_IS_NAT)
        known = [("abc", saying_in("|- p x0"))]
        chart = chart_in("p x0 |- p x0\nlean abc x0=x0")
        self.told(shorter(known=known, chart=chart, defs=PAIR), (chart[0], (("by",),)))
        self.assertRaises(TypeError, shorter, PAIR, chart, known)


if __name__ == "__main__":
    unittest.main()

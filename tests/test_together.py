import unittest
from copy import deepcopy
from random import Random

from helper import NUMBERS, Case
from ringproofs.charts import is_right, leaned, lines
from ringproofs.charttexts import chart_in, chart_text
from ringproofs.errors import Leans, TooLong
from ringproofs.rounds import is_let_by
from ringproofs.together import put_in
from test_charts import EVEN_IS_NAT, LESS_THAN_NEXT, ODD_IS_NAT

AS_EVEN = "as even x0 |- nat x0 ; "
ROWS = ["split 0", "use 0", "use 1", "split 0", "use 1"]
ON = chart_in("odd x5 |- nat x5\nsplit 0\nuse 1\nlean en x0=x6")
TWICE = chart_in("even x0, odd x1 |- less 0 s(x0)\ncut nat x0\nlean en x0=x0\ncut nat x1\nlean on x5=x1\nuse 0")


def by_hand(chart, there):
    """The rows of a chart put in, each lean by itself, as deep as it goes; backs are by the places of their rows."""
    rows = []

    def lay(other):
        places = {}
        for line, step in enumerate(other[1]):
            places[line] = len(rows)
            rows.append([step, places])
            if step[0] == "lean":
                rows[-1][0] = ("as", there[step[1]][0], step[2])
                lay(there[step[1]])

    lay(chart)
    return (chart[0], tuple(("back", places[step[1]], step[2]) if step[0] == "back" else step for step, places in rows))


def chain(many, leans):
    """Charts c0, c1 .. of nat x0 |- nat x0: the first of one line, each other one a cut tree that leans so often on the last."""
    charts = [("ca", chart_in("nat x0 |- nat x0\nby"))]
    for k in range(1, many):
        rows = ["cut nat x0", f"lean c{'abcdefgh'[k - 1]} x0=x0"] * leans + ["by"]
        charts.append((f"c{'abcdefgh'[k]}", chart_in("\n".join(["nat x0 |- nat x0", *rows]))))
    return charts


class PutIn(Case):
    def so(self, chart, charts, *rows):
        told = put_in(chart, charts)
        self.told(chart_text(told).split("\n")[1:], list(rows))
        self.told(told[0], chart[0])
        self.told(put_in(chart, tuple(charts)), told)
        self.told(put_in(told, []), told)
        return told

    def test_nothing_to_put_in(self):
        for chart in [EVEN_IS_NAT, ODD_IS_NAT, LESS_THAN_NEXT]:
            self.told(put_in(chart, []), chart)
            self.told(put_in(chart, [("en", EVEN_IS_NAT)]), chart)

    def test_one(self):
        self.so(ON, [("en", EVEN_IS_NAT)], "split 0", "use 1", AS_EVEN + "x0=x6", *ROWS, "back 3 x0=x2")
        self.so(chart_in("even x7 |- nat x7\nlean en x0=x7"), [("en", EVEN_IS_NAT)], AS_EVEN + "x0=x7", *ROWS, "back 1 x0=x2")
        self.so(chart_in("even 0 |- nat 0\nlean en x0=0"), [("en", chart_in("even x0 |- nat x0"))], AS_EVEN + "x0=0")

    def test_two_deep(self):
        charts = [("en", EVEN_IS_NAT), ("on", ON)]
        chart = chart_in("odd x0 |- nat s(x0)\nuse 1\nlean on x5=x0")
        self.so(chart, charts, "use 1", "as odd x5 |- nat x5 ; x5=x0", "split 0", "use 1", AS_EVEN + "x0=x6", *ROWS, "back 5 x0=x2")

    def test_twice_on_one_and_on_two(self):
        charts = [("en", EVEN_IS_NAT), ("on", ON)]
        self.so(TWICE, charts, "cut nat x0", AS_EVEN + "x0=x0", *ROWS, "back 2 x0=x2", "cut nat x1", "as odd x5 |- nat x5 ; x5=x1",
                "split 0", "use 1", AS_EVEN + "x0=x6", *ROWS, "back 13 x0=x2", "use 0")
        chart = chart_in("even x0, even x1 |- less 0 s(x0)\ncut nat x0\nlean en x0=x0\ncut nat x1\nlean en x0=x1\nuse 0")
        self.so(chart, charts, "cut nat x0", AS_EVEN + "x0=x0", *ROWS, "back 2 x0=x2", "cut nat x1", AS_EVEN + "x0=x1", *ROWS,
                "back 10 x0=x2", "use 0")

    def test_backs_of_the_chart_itself(self):
        chart = chart_in("nat x0, even x1 |- less x0 s(x0)\ncut nat x1\nlean en x0=x1\nsplit 0\nuse 0\nuse 1\nback 2 x0=x2 x1=x1")
        told = self.so(chart, [("en", EVEN_IS_NAT)], "cut nat x1", AS_EVEN + "x0=x1", *ROWS, "back 2 x0=x2", "split 0", "use 0", "use 1",
                       "back 8 x0=x2 x1=x1")
        self.told(is_right(NUMBERS, told), is_right(NUMBERS, chart, known=[("en", EVEN_IS_NAT[0])]))
        chart = chart_in("nat x0, even x1 |- less x0 s(x0)\ncut nat x1\nlean en x0=x1\nsplit 0\nuse 0\nuse 1\nback 0 x0=x2 x1=x1")
        told = self.so(chart, [("en", EVEN_IS_NAT)], "cut nat x1", AS_EVEN + "x0=x1", *ROWS, "back 2 x0=x2", "split 0", "use 0", "use 1",
                       "back 0 x0=x2 x1=x1")
        self.told(is_let_by(NUMBERS, told), True)

    def test_back_to_the_line_of_a_lean(self):
        chart = chart_in("even x0 |- less 0 s(x0)\ncut nat x0\nlean en x0=x0\ncut nat x0\nback 1 x0=x0\nuse 0")
        known = [("en", EVEN_IS_NAT[0])]
        self.told(is_let_by(NUMBERS, chart, known=known), True)
        told = self.so(chart, [("en", EVEN_IS_NAT)], "cut nat x0", AS_EVEN + "x0=x0", *ROWS, "back 2 x0=x2", "cut nat x0", "back 1 x0=x0",
                       "use 0")
        self.told(is_let_by(NUMBERS, told), True)

    def test_charts_that_are_not_wanted(self):
        other = chart_in("|- nat 0\nlean en x0=0\nback 7 -")
        more = [("aaa", other), ("en", EVEN_IS_NAT), ("on", ON), ("zzz", chart_in("|- nat 0"))]
        self.told(put_in(ON, more), put_in(ON, [("en", EVEN_IS_NAT)]))
        # Nothing is asked of them, nor are they put in, however long they'd be.
        great = [*chain(8, 6), ("en", EVEN_IS_NAT)]
        self.told(put_in(ON, great), put_in(ON, [("en", EVEN_IS_NAT)]))

    def test_leans(self):
        self.refused(Leans, "en", put_in, ON, [])
        self.refused(Leans, "en", put_in, ON, [("on", ON)])
        self.refused(Leans, "en", put_in, TWICE, [])
        self.refused(Leans, "on", put_in, TWICE, [("en", EVEN_IS_NAT)])
        chart = chart_in("|- nat 0\nlean zz -\nlean b -\nlean abc -")
        self.refused(Leans, "abc", put_in, chart, [])
        self.refused(Leans, "b", put_in, chart, [("abc", EVEN_IS_NAT)])
        self.refused(Leans, "zz", put_in, chart, [("abc", EVEN_IS_NAT), ("b", EVEN_IS_NAT)])

    def test_200_lines_and_one_more(self):
        for rows, wanted in [(190, 200), (191, None)]:
            # All that's long is leaned on: it has so many lines, and ahead of it stand ten.
            other = chart_in("\n".join(["nat x0 |- nat x0", *["as nat x0 |- nat x0 ; x0=x0"] * (rows - 1), "by"]))
            chart = chart_in("\n".join(["nat x0 |- nat x0", *["as nat x0 |- nat x0 ; x0=x0"] * 9, "lean b x0=x0"]))
            if wanted is None:
                self.refused(TooLong, 200, put_in, chart, [("b", other)])
            else:
                self.assertEqual(len(put_in(chart, [("b", other)])[1]), wanted)
        # Leaning is one line itself, so of five deep there are 2 * last + 5 more.
        charts = chain(7, 2)
        lengths = [1]
        for _ in range(6):
            lengths.append(2 * lengths[-1] + 5)
        for k in range(7):
            chart = charts[k][1]
            if lengths[k] <= 200:
                self.assertEqual(len(put_in(chart, charts)[1]), lengths[k])
            else:
                self.refused(TooLong, 200, put_in, chart, charts)
        self.assertTrue(lengths[5] <= 200 < lengths[6])

    def test_within_the_bounds(self):
        # 25 lines, put in seven times, to 25 lines and to 26.
        rows = ["as nat x0 |- nat x0 ; x0=x0"]
        other = chart_in("\n".join(["nat x0 |- nat x0", *rows * 24, "by"]))
        for ahead in (12, 13):
            chart = chart_in("\n".join(["nat x0 |- nat x0", *rows * ahead, *["cut nat x0", "lean b x0=x0"] * 6, "lean b x0=x0"]))
            self.assertEqual(len(chart[1]), ahead + 13)
            if ahead == 12:
                told = put_in(chart, [("b", other)])
                self.assertEqual(len(told[1]), 200)
                self.told(is_let_by(NUMBERS, told), True)
            else:
                self.refused(TooLong, 200, put_in, chart, [("b", other)])

    def test_far_too_long(self):
        charts = chain(8, 9)
        self.refused(TooLong, 200, put_in, charts[-1][1], charts)
        self.refused(Leans, "z", put_in, chart_in("nat x0 |- nat x0\ncut nat x0\nlean ch x0=x0\nlean z -"), charts)

    def test_a_chart_that_is_not_right(self):
        # No Definitions are handed in: what isn't right is put in as it's written.
        self.so(chart_in("|- nat 0\nlean en -\nuse 77"), [("en", chart_in("|- odd 0\nuse 5\nby"))], "as |- odd 0 ; -", "use 5", "by", "use 77")

    def test_drawn(self):
        for seed in range(200):
            draw = Random(seed)
            charts = []
            for k in range(draw.randrange(1, 6)):
                names = [name for name, _ in charts]
                rows, left = [], 1
                while left:
                    row = draw.choice(["cut", "as", "lean", "lean", "back"]) if len(rows) < 8 else "back"
                    row = "by" if row == "lean" and not names else row
                    left += {"cut": 1, "as": 0}.get(row, -1)
                    rows.append(row)
                text = {"cut": "cut nat x0", "as": "as nat x0 |- nat x0 ; x0=x0", "by": "by"}
                rows = [f"back {draw.randrange(len(rows))} x0=x0" if row == "back" else
                        f"lean {draw.choice(names)} x0=x0" if row == "lean" else text[row] for row in rows]
                charts.append(("abcde"[k], chart_in("\n".join(["nat x0 |- nat x0", *rows]))))
            chart = charts[-1][1]
            wanted = by_hand(chart, dict(charts))
            known = [(name, other[0]) for name, other in charts[:-1]]
            self.assertTrue(is_right(NUMBERS, chart, known=known))
            if len(wanted[1]) > 200:
                self.refused(TooLong, 200, put_in, chart, charts[:-1])
                continue
            told = put_in(chart, charts[:-1])
            self.told(told, wanted)
            self.told(leaned(told), [])
            self.told(is_right(NUMBERS, told), True)
            if all(is_let_by(NUMBERS, other, known=known) for _, other in charts):
                self.told(is_let_by(NUMBERS, told), True)

    def test_let_by(self):
        charts = [("en", EVEN_IS_NAT), ("on", ON)]
        known = [(name, chart[0]) for name, chart in charts]
        for chart in [ON, TWICE]:
            self.told(is_let_by(NUMBERS, chart, known=known), True)
            told = put_in(chart, charts)
            self.told(is_let_by(NUMBERS, told), True)
            self.told(lines(NUMBERS, told)[0][0], chart[0])
            self.told(leaned(told), [])

    def test_nothing_is_changed(self):
        charts = [("en", EVEN_IS_NAT), ("on", ON)]
        kept = deepcopy((charts, TWICE))
        self.told(put_in(TWICE, charts), put_in(TWICE, charts))
        self.told((charts, TWICE), kept)

    def test_by_name(self):
        self.told(put_in(charts=[("en", EVEN_IS_NAT)], chart=ON), put_in(ON, [("en", EVEN_IS_NAT)]))
        self.assertRaises(TypeError, put_in, ON)


if __name__ == "__main__":
    unittest.main()

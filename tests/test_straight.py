import unittest
from copy import deepcopy
from random import Random

from helper import NUMBERS, Case, odd_things
from plaincharts import drawn_machine
from plainwalks import plain_straight
from ringproofs.charts import lines
from ringproofs.charttexts import chart_in, chart_text
from ringproofs.errors import BadChart, TooLong
from ringproofs.rounds import is_let_by
from ringproofs.straight import is_straight, straight
from test_charts import EVEN_IS_NAT, LESS_THAN_NEXT, ODD_IS_NAT, PAIR
from test_judgement import drawn_cases
from test_leaps import MACHINES
from test_papers import KNOWN, LEANING, WRONG

P = "p x0 |- p x0"
AS = "as p x0 |- p x0 ; x0=x0"


def p_chart(*rows):
    """A chart of p x0 |- p x0; `back 3` is written for short, and `as` for one of that saying."""
    full = [row + " x0=x0" if row.startswith("back") or row.startswith("lean") else AS if row == "as" else row for row in rows]
    return chart_in("\n".join([P, *full]))


def crossing(pairs, ahead):
    """A chart of blocks of three lines, use and two lines of back, which go back to a pair of other blocks each."""
    rows = ["as"] * ahead
    starts = [ahead + 4 * k + (k < len(pairs) - 1) for k in range(len(pairs))]
    for k, (left, right) in enumerate(pairs):
        rows += ["use 0"] * (1 + (k < len(pairs) - 1)) + [f"back {starts[left]}", f"back {starts[right]}"]
    return p_chart(*rows)


PAIRS = [(3, 2), (2, 0), (0, 4), (1, 0), (1, 3)]
ALREADY = [EVEN_IS_NAT, ODD_IS_NAT, LESS_THAN_NEXT, chart_in("|- nat 0\nuse 0"), chart_in("nat x0 |- nat x0\nby")]


class Straight(Case):
    def laid(self, chart, *rows, defs=PAIR, **named):
        """That it's laid so."""
        told = straight(defs, chart, **named)
        self.told(chart_text(told), chart_text(p_chart(*rows)))
        self.told(is_straight(lines(defs, told, **named)), True)

    def test_already_straight(self):
        for chart in ALREADY:
            self.told(straight(NUMBERS, chart), chart)

    def test_to_the_line_itself(self):
        self.laid(p_chart("back 0"), "back 0")
        self.laid(p_chart("use 0", "back 1", "back 2"), "use 0", "back 1", "back 2")

    def test_beside(self):
        self.laid(p_chart("use 0", "by", "back 1"), "use 0", "by", "as", "by")
        self.laid(p_chart("use 0", "back 2", "by"), "use 0", "as", "by", "by")
        self.laid(p_chart("use 0", "back 2", "use 0", "by", "by"), "use 0", "as", "use 0", "by", "by", "use 0", "by", "by")

    def test_beneath_all_that_stands_there_is_laid(self):
        self.laid(p_chart("use 0", "back 2", "use 0", "by", "back 2"), "use 0", "as", "use 0", "by", "back 2", "use 0", "by", "back 5")

    def test_to_another_line_of_back(self):
        self.laid(p_chart("use 0", "back 2", "back 2"), "use 0", "as", "back 2", "back 3")
        # Each goes back to the other one: the copy that's above is then the line of as.
        self.laid(p_chart("use 0", "back 2", "back 1"), "use 0", "as", "back 1", "as", "back 3")

    def test_what_goes_back_above_from_a_copy(self):
        self.laid(p_chart("use 0", "back 2", "use 0", "by", "back 0"), "use 0", "as", "use 0", "by", "back 0", "use 0", "by", "back 0")

    def test_the_last_copy(self):
        # Line 1 goes to line 3, from there back to line 2, beneath which line 3 is laid once more.
        chart = p_chart("use 0", "back 3", "use 0", "use 0", "back 2", "back 3", "by")
        self.laid(chart, "use 0", "as", "use 0", "as", "use 0", "use 0", "back 4", "back 5", "by", "back 2", "use 0", "use 0",
                  "back 10", "back 11", "by")

    def test_the_saying_and_binding_of_as(self):
        chart = chart_in("nat x0, nat x1 |- nat s(x0)\ncut nat s(x1)\nas nat x7 |- nat s(x7) ; x7=x1\nuse 1\nby\n"
                         "back 2 x7=x0")
        self.told(chart_text(straight(NUMBERS, chart)),
                  "nat x0, nat x1 |- nat s(x0)\ncut nat s(x1)\nas nat x7 |- nat s(x7) ; x7=x1\nuse 1\nby\n"
                  "as nat x7 |- nat s(x7) ; x7=x0\nuse 1\nby")

    def test_200_lines_and_one_more(self):
        self.assertEqual(len(crossing(PAIRS, 11)[1]), 30)
        told = straight(PAIR, crossing(PAIRS, 10))
        self.assertEqual(len(told[1]), 200)
        self.told(told, (told[0], plain_straight(PAIR, crossing(PAIRS, 10), 200)))
        self.told(is_straight(lines(PAIR, told)), True)
        self.refused(TooLong, 200, straight, PAIR, crossing(PAIRS, 11))
        self.told(straight(PAIR, told), told)

    def test_far_too_long(self):
        pairs = [((k + 1) % 7, (k + 2) % 7) for k in range(7)]
        self.assertEqual(len(crossing(pairs, 3)[1]), 30)
        self.refused(TooLong, 200, straight, PAIR, crossing(pairs, 3))

    def test_refused(self):
        for chart, line in WRONG:
            self.refused(BadChart, line, straight, NUMBERS, chart)
        self.refused(BadChart, 1, straight, PAIR, LEANING)
        chart = crossing(PAIRS, 11)
        self.refused(BadChart, 29, straight, PAIR, (chart[0], (*chart[1][:-1], ("back", 7, ()))))

    def test_leans(self):
        self.told(straight(PAIR, LEANING, known=KNOWN), LEANING)
        chart = p_chart("use 0", "back 2", "lean abc")
        self.laid(chart, "use 0", "as", "lean abc", "lean abc", known=KNOWN)
        self.laid(chart, "use 0", "as", "lean abc", "lean abc", known=tuple(KNOWN))

    def judge(self, defs, chart):
        """That it's laid as worded, of the same saying and let by just where it was; whether it was straight."""
        already = is_straight(lines(defs, chart))
        steps = plain_straight(defs, chart, 200)
        if steps is None:
            self.refused(TooLong, 200, straight, defs, chart)
            return already
        told = straight(defs, chart)
        self.told(told, (chart[0], steps))
        self.told(is_straight(lines(defs, told)), True)
        self.told(is_let_by(defs, told), is_let_by(defs, chart))
        self.told(straight(defs, told), told)
        if already:
            self.told(told, chart)
        return already

    def test_drawn_charts(self):
        crooked = 0
        for defs, chart in drawn_cases(500):
            crooked += not self.judge(defs, chart)
        self.assertGreater(crooked, 30)

    def test_machines(self):
        crooked = 0
        for seed in range(200):
            draw = Random(seed)
            crooked += not self.judge(MACHINES, drawn_machine(draw, draw.choice([1, 2]), 3, draw.choice([2, 3, 4])))
        self.assertGreater(crooked, 80)

    def test_crossing(self):
        for seed in range(60):
            draw = Random(seed)
            many = draw.choice([3, 4, 5])
            pairs = [tuple(draw.sample(range(many), 2)) for _ in range(many)]
            self.judge(PAIR, crossing(pairs, draw.randrange(4)))

    def test_the_same_again_and_nothing_is_changed(self):
        chart = crossing(PAIRS, 2)
        kept = deepcopy(chart)
        self.told(straight(PAIR, chart), straight(PAIR, chart))
        self.told(chart, kept)

    def test_by_name(self):
        self.told(straight(chart=EVEN_IS_NAT, defs=NUMBERS), EVEN_IS_NAT)
        self.told(straight(known=KNOWN, chart=LEANING, defs=PAIR), LEANING)
        self.assertRaises(TypeError, straight, PAIR, LEANING, KNOWN)


class IsStraight(Case):
    def so(self, thing, wanted):
        with self.subTest(repr(thing)[:80]):
            self.told(is_straight(thing), wanted)

    def test_so(self):
        for chart in ALREADY:
            self.so(lines(NUMBERS, chart), True)
        self.so(lines(PAIR, LEANING, known=KNOWN), True)

    def test_where_backs_go(self):
        # Lines 0 and 2 stand above line 4, line 1 beside it and line 5 behind.
        for line, wanted in [(0, True), (1, False), (2, True), (3, False), (4, True), (5, False)]:
            self.so(lines(PAIR, p_chart("use 0", "by", "use 0", "by", f"back {line}")) if line < 5 else
                    lines(PAIR, p_chart("use 0", "use 0", "by", f"back {line - 1}", "by")), wanted)

    def test_one_of_several_backs(self):
        self.so(lines(PAIR, p_chart("use 0", "back 0", "back 1")), False)
        self.so(lines(PAIR, p_chart("use 0", "back 2", "back 0")), False)
        self.so(lines(PAIR, p_chart("use 0", "back 1", "back 0")), True)

    def test_kinds(self):
        rows = lines(NUMBERS, EVEN_IS_NAT)
        self.so(tuple(rows), False)
        for at, (saying, step, places) in enumerate(rows):
            for row in [[saying, step, places], (saying, step), (saying, step, places, ()), (saying, step, list(places)),
                        (saying, list(step), places), (list(saying), step, places), (None, step, places), (saying, None, places),
                        (saying, step, None), (saying, step, tuple(map(str, places)) or None), (step, saying, places)]:
                self.so(rows[:at] + [row] + rows[at + 1:], False)
        self.so([(rows[0][0], rows[0][1], (True, 2)), *rows[1:]], False)
        self.so([*rows[:-1], (rows[-1][0], ("back", False, rows[-1][1][2]), ())], False)

    def test_what_lines_never_tells(self):
        rows = lines(NUMBERS, EVEN_IS_NAT)
        self.so([], False)
        for at in range(len(rows)):
            self.so(rows[:at] + [rows[at]] + rows[at:], False)
            self.so(rows[:at], False)
            self.so(rows[:at] + rows[at + 1:] + [rows[at]], at == len(rows) - 1)
        saying, step, _ = rows[0]
        for places in [(), (1,), (2, 1), (1, 3), (0, 1), (1, 1), (1, 2, 3), (1, 2, 6)]:
            self.so([(saying, step, places), *rows[1:]], False)
        self.so([*rows[:-1], (rows[-1][0], ("back", 0, ()), ())], False)
        self.so([*rows[:-1], (rows[-1][0], ("back", 99, ((0, 2),)), ())], False)
        self.so([*rows[:-1], (rows[-1][0], ("by",), ())], False)
        self.so([(saying, ("split", 1), (1, 2)), *rows[1:]], False)
        self.so([*rows[:3], (rows[3][0], ("as", *rows[3][:1], ()), rows[3][2]), *rows[4:]], False)
        chart = chart_in("nat x0 |- nat s(x0)\ncut nat x0\nby\nuse 1\nby")
        rows = lines(NUMBERS, chart)
        self.so(rows, True)
        self.so([(rows[0][0], ("cut", ("nat", ("s", 0))), rows[0][2]), *rows[1:]], False)

    def test_odd_things(self):
        rows = lines(NUMBERS, EVEN_IS_NAT)
        for thing in odd_things():
            self.so(thing, False)
            self.so([thing], False)
            self.so([*rows, thing], False)
            self.so([(*rows[0][:2], thing), *rows[1:]], False)
            self.so([*rows[:-1], (*rows[-1][:2], thing)], thing == ())
            self.so([(thing, *rows[0][1:]), *rows[1:]], False)

    def test_by_name(self):
        rows = lines(NUMBERS, EVEN_IS_NAT)
        self.told(is_straight(chart_lines=rows), True)
        self.told(rows, lines(NUMBERS, EVEN_IS_NAT))


if __name__ == "__main__":
    unittest.main()

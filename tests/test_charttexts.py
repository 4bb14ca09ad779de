import unittest
from random import Random

from helper import GREAT_TERMS, NOUGHT, Case
from plaincharts import drawn_chart, drawn_saying
from plainly import drawn_definitions
from ringproofs.charts import is_chart
from ringproofs.charttexts import chart_in, chart_text
from ringproofs.errors import BadRow
from ringproofs.sayingtexts import saying_in
from ringproofs.termtexts import term_text
from test_steps import STEPS

SAYING = "nat x0, even x1 |- nat f(x0,x1)"
ROWS = [(("by",), "by"), (("split", 0), "split 0"), (("use", 1), "use 1"), (("use", 10), "use 10"),
        (("back", 0, ((0, 1),)), "back 0 x0=x1"), (("back", 29, ()), "back 29 -"), (("cut", ("even", 0)), "cut even x0"),
        (("cut", ("less", NOUGHT, ("s", 99))), "cut less 0 s(x99)"),
        (("as", saying_in(SAYING), ((0, ("s", 1)), (1, NOUGHT))), f"as {SAYING} ; x0=s(x1) x1=0"),
        (("as", ((), ("even", NOUGHT)), ()), "as |- even 0 ; -"), (("lean", "abc", ((0, 1), (3, NOUGHT))), "lean abc x0=x1 x3=0"),
        (("lean", "by", ()), "lean by -"), (("split", 1234567890), "split 1234567890")]

NO_ROWS = ["", " ", "-", "by ", " by", "by 0", "by -", "By", "bye", "by\r", "split", "split ", "split  0", "split 0 ", "split -1",
           "split +1", "split 00", "split 01", "split x0", "split 0 0", "split 0,1", "split 1.0", "split -", "split a", "split 1_0",
           "split \u0663", "split \u00b2", " split 0", "Split 0", "splits 0", "split0", "use", "use ", "use -1", "use 00", "use 0 -",
           "use x", "use 1e1", "back", "back ", "back 0", "back 0 ", "back -", "back x0=x1", "back 0  x0=x1", "back 0 x0=x1 ",
           "back 00 x0=x1", "back -1 -", "back 0 x0", "back 0 x0=", "back 0 x1=0 x0=0", "back 0 x0=0 x0=0", "back 0 x0=x100",
           "back 0 x0=0  x1=0", "back 0 x0=0, x1=0", "back 0 - -", "back 0 0 -", "back a -", "back  0 -", "cut", "cut ", "cut nat",
           "cut  nat x0", "cut nat x0 ", "cut nat  x0", "cut nat x0 x1 x2", "cut if x0", "cut nat x00", "cut x0", "cut nat x0, odd x0",
           "cut |- nat x0", "cut nat s(x0", "as", "as ", "as |- nat x0", "as |- nat x0 ;", "as |- nat x0 ; ", "as ; -", "as  ; -",
           "as |- nat x0;-", "as |- nat x0 ;-", "as |- nat x0; -", "as |- nat x0  ; -", "as |- nat x0 ;  -", "as  |- nat x0 ; -",
           "as |- nat x0 ; - ", "as |- nat x0 ; - ; -", "as |- nat x0 ; |- nat x0", "as |- nat x0 ; x0", "as nat x0 ; x0=0",
           "as |- nat x0 -", "as |- nat x0 , -", "as nat x0, nat x0 |- odd x0 ; x0=0", "as |- nat x0 ; x1=0 x0=0", "as - ; -",
           "as |-nat x0 ; -", "lean", "lean ", "lean abc", "lean abc ", "lean  abc -", "lean abc  -", "lean abc - ", "lean if -",
           "lean Abc -", "lean abcdefg -", "lean abc x0", "lean 0 -", "lean -", "lean abc abc -", "lean abc x0=x100", "lean a1 -",
           "even x0", "nat x0 |- nat x0", "0", "use 0, use 0", "use 0;", "split " + "9" * 5000, "split " + "0" * 5000,
           "back " + "1" * 5000 + " -", "(" * 5900, ")" * 5900, "cut nat " + "s(" * 2900, "cut nat " + "s(" * 1900 + "0" + ")" * 1900,
           "back 0 x0=" + "(" * 5800, "back 0 x0=" + "s(" * 1900 + "0" + ")" * 1900, "lean abc x0=" + "s(" * 2900,
           "as |- nat " + "s(" * 1900 + "0" + ")" * 1900 + " ; -", "as " + "(" * 5000 + " ; -", "as |- nat 0 ; " + "s(" * 2900,
           " ; " * 1900, "by " * 1900, "lean " * 1100, "split " * 900]


class ChartTexts(Case):
    def both(self, chart, text):
        self.told(chart_text(chart), text)
        self.told(chart_in(text), chart)
        self.told(is_chart(chart_in(text)), True)

    def bad(self, row, text):
        with self.subTest(text[:80]):
            self.refused(BadRow, row, chart_in, text)

    def test_no_steps(self):
        self.both((saying_in(SAYING), ()), SAYING)
        self.both((((), ("even", NOUGHT)), ()), "|- even 0")

    def test_each_step(self):
        for step, row in ROWS:
            self.both((saying_in(SAYING), (step,)), SAYING + "\n" + row)
            self.both((((), ("nat", 0)), (step, ("by",), step)), "|- nat x0\n" + row + "\nby\n" + row)

    def test_numbers_somewhat_beyond(self):
        number = 10 ** 19 + 7
        self.both((((), ("nat", 0)), (("split", number), ("back", number, ()))), f"|- nat x0\nsplit {number}\nback {number} -")

    def test_all_steps(self):
        self.both((saying_in(SAYING), tuple(step for step, _ in ROWS)), "\n".join([SAYING, *[row for _, row in ROWS]]))
        chart = (saying_in(SAYING), tuple(STEPS))
        self.told(chart_in(chart_text(chart)), chart)

    def test_a_chart_that_is_not_right(self):
        self.both((((), ("nat", 0)), (("use", 7), ("back", 99, ()))), "|- nat x0\nuse 7\nback 99 -")

    def test_great_terms(self):
        for term in GREAT_TERMS:
            text = term_text(term)
            self.both((((("nat", term),), ("odd", term)), (("cut", ("nat", term)), ("back", 3, ((9, term),)),
                                                           ("as", ((), ("odd", term)), ((1, term),)))),
                      f"nat {text} |- odd {text}\ncut nat {text}\nback 3 x9={text}\nas |- odd {text} ; x1={text}")

    def test_thirty_rows(self):
        text = "\n".join([SAYING] + ["as " + SAYING + " ; x0=x0 x1=x1"] * 29 + ["by"])
        self.told(chart_text(chart_in(text)), text)
        self.assertEqual(len(chart_in(text)[1]), 30)

    def test_drawn_charts(self):
        drawn = 0
        for seed in range(100):
            draw = Random(seed)
            defs = drawn_definitions(seed)
            chart = drawn_chart(draw, defs, drawn_saying(draw, defs, [0, 1], 3, 2), 12)
            if chart is not None:
                drawn += 1
                self.told(chart_in(chart_text(chart)), chart)
        self.assertGreater(drawn, 30)

    def test_no_rows(self):
        for row in NO_ROWS:
            if "\n" not in row:
                self.bad(1, SAYING + "\n" + row)
                self.bad(2, SAYING + "\nby\n" + row + "\n" + row)

    def test_no_sayings(self):
        for row in ["", " ", "by", "-", "nat x0", "|- nat x0 ", " |- nat x0", "nat x0, nat x0 |- odd 0", "|- nat " + "(" * 5000,
                    "|- nat " + "s(" * 1900 + "0" + ")" * 1900, "|- nat x0; by", "as |- nat x0 ; -"]:
            self.bad(0, row)
            self.bad(0, row + "\nby")
            self.bad(0, row + "\nby \n")

    def test_bare_rows(self):
        self.bad(0, "")
        self.bad(0, "\n")
        self.bad(0, "\n" + SAYING)
        self.bad(1, SAYING + "\n")
        self.bad(2, SAYING + "\nby\n")
        self.bad(1, SAYING + "\n\nby")
        self.bad(0, "\n" * 5999)

    def test_each_row_spoilt(self):
        rows = [SAYING, *[row for _, row in ROWS]]
        for k, row in enumerate(rows):
            for spoilt in [" " + row, row + " ", "-" + row, row + ")", row + ",", "X" + row[1:], row[:-1] + "(", row[3:], "", row + "\r"]:
                self.bad(k, "\n".join([*rows[:k], spoilt, *rows[k + 1:]]))
                self.bad(k, "\n".join([*rows[:k], spoilt, *rows[k + 1:], "", "by "]))

    def test_each_row_twice_out_or_exchanged(self):
        rows = [SAYING, *[row for _, row in ROWS]]
        steps = tuple(step for step, _ in ROWS)
        self.bad(1, "\n".join([SAYING, *rows]))
        self.bad(0, "\n".join(rows[1:]))
        self.bad(0, "\n".join([rows[1], rows[0], *rows[2:]]))
        for k in range(len(steps)):
            text = "\n".join([*rows[:k + 2], *rows[k + 1:]])
            self.told(chart_in(text), (saying_in(SAYING), (*steps[:k + 1], *steps[k:])))
            text = "\n".join([*rows[:k + 1], *rows[k + 2:]])
            self.told(chart_in(text), (saying_in(SAYING), (*steps[:k], *steps[k + 1:])))
        for k in range(len(steps) - 1):
            text = "\n".join([*rows[:k + 1], rows[k + 2], rows[k + 1], *rows[k + 3:]])
            self.told(chart_in(text), (saying_in(SAYING), (*steps[:k], steps[k + 1], steps[k], *steps[k + 2:])))

    def test_a_sign_more_or_less(self):
        # Each row with one sign left out, or one more put in, is some other step's text or none's.
        for _, row in ROWS:
            for at in range(len(row) + 1):
                spoilt = [row[:at] + row[at + 1:]] + [row[:at] + sign + row[at:] for sign in "01sfxa=;(), |-"]
                for other in spoilt:
                    text = "|- nat 0\n" + other
                    try:
                        self.told(chart_text(chart_in(text)), text)
                    except BadRow as refusal:
                        self.told(refusal.what, 1)

    def test_the_first_of_several(self):
        self.bad(0, "nat\nby \nuse")
        self.bad(2, "|- nat 0\nby\nuse\nsplit")

    def test_by_name(self):
        chart = (((), ("nat", 0)), (("by",),))
        self.told(chart_text(chart=chart), "|- nat x0\nby")
        self.told(chart_in(text="|- nat x0\nby"), chart)
        self.refused(BadRow, 1, chart_in, text="|- nat x0\nbye")


if __name__ == "__main__":
    unittest.main()

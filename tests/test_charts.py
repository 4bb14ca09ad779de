import unittest
from copy import deepcopy
from random import Random

from helper import EVEN, NAT, NUMBERS, Case, odd_things
from plaincharts import Plain, drawn_chart, drawn_saying
from plainly import drawn_definitions
from ringproofs.charts import goals, is_chart, is_right, leaned, lines
from ringproofs.charttexts import chart_in
from ringproofs.definitions import Definitions
from ringproofs.deftexts import definitions_in
from ringproofs.errors import BadChart
from ringproofs.sayingtexts import saying_in, saying_text
from test_steps import NO_SAYINGS, SAYING, STEPS

EVEN_IS_NAT = chart_in("even x0 |- nat x0\nsplit 0\nuse 0\nuse 1\nsplit 0\nuse 1\nback 0 x0=x2")
ODD_IS_NAT = chart_in("odd x0 |- nat x0\nsplit 0\nuse 1\nsplit 0\nuse 0\nuse 1\nback 0 x0=x2")
LESS_THAN_NEXT = chart_in("nat x0 |- less x0 s(x0)\nsplit 0\nuse 0\nuse 1\nback 0 x0=x1")
PAIR = definitions_in("p x0 if p x0, p x0\nq x0 if q x0, q x0, q x0\nn x0 if n x0")


class IsChart(Case):
    def test_so(self):
        for thing in [EVEN_IS_NAT, ODD_IS_NAT, LESS_THAN_NEXT, (SAYING, ()), (SAYING, tuple(STEPS)),
                      (saying_in("|- nat 0"), (("by",),)), (SAYING, (("by",),) * 30)]:
            self.told(is_chart(thing), True)

    def test_of_parts_alone(self):
        for step in STEPS:
            self.told(is_chart((saying_in("|- nat 0"), (step, step))), True)

    def test_wrong_kinds(self):
        for thing in [list(EVEN_IS_NAT), (SAYING,), (), (SAYING, (), ()), (SAYING, []), (SAYING, [("by",)]), (SAYING, ("by",)),
                      (SAYING, (["by"],)), (SAYING, (("by",), None)), (SAYING, (("by",), ("by", 0))), (SAYING, (("use", True),)),
                      (SAYING, (("split", -1),)), (SAYING, None), (SAYING, "by"), ((), SAYING), (("by",), SAYING), SAYING, None,
                      (SAYING, (("back", 0, []),)), (SAYING, ((),)), (SAYING, 0), True, 0, "", (None, (("by",),))]:
            with self.subTest(repr(thing)[:80]):
                self.told(is_chart(thing), False)
        for saying in NO_SAYINGS:
            self.told(is_chart((saying, (("by",),))), False)

    def test_odd_things(self):
        for thing in odd_things():
            self.told(is_chart(thing), False)
            self.told(is_chart((SAYING, thing)), thing == ())
            self.told(is_chart((thing, ())), False)
            self.told(is_chart((SAYING, (thing,))), False)

    def test_by_name(self):
        self.told(is_chart(thing=EVEN_IS_NAT), True)


def rows_of(told):
    return [(saying_text(saying), places) for saying, _, places in told]


class Charts(Case):
    def bad(self, line, text, defs=NUMBERS, **named):
        """That it's refused so, and not right."""
        chart = chart_in(text)
        self.refused(BadChart, line, lines, defs, chart, **named)
        self.told(is_right(defs, chart, **named), False)

    def right(self, text, *wanted, defs=NUMBERS, **named):
        chart = chart_in(text)
        told = lines(defs, chart, **named)
        self.told(rows_of(told), list(wanted))
        self.told([step for _, step, _ in told], list(chart[1]))
        self.told(is_right(defs, chart, **named), True)


class Lines(Charts):
    def test_ordinary(self):
        self.told(rows_of(lines(NUMBERS, EVEN_IS_NAT)),
                  [("even x0 |- nat x0", (1, 2)), ("|- nat 0", ()), ("odd x1 |- nat s(x1)", (3,)), ("odd x1 |- nat x1", (4,)),
                   ("even x2 |- nat s(x2)", (5,)), ("even x2 |- nat x2", ())])
        self.told(rows_of(lines(NUMBERS, LESS_THAN_NEXT)),
                  [("nat x0 |- less x0 s(x0)", (1, 2)), ("|- less 0 s(0)", ()), ("nat x1 |- less s(x1) s(s(x1))", (3,)),
                   ("nat x1 |- less x1 s(x1)", ())])
        for chart in [EVEN_IS_NAT, ODD_IS_NAT, LESS_THAN_NEXT]:
            self.told([step for _, step, _ in lines(NUMBERS, chart)], list(chart[1]))

    def test_one_line(self):
        self.right("nat x0 |- nat x0\nby", ("nat x0 |- nat x0", ()))
        self.right("|- nat 0\nuse 0", ("|- nat 0", ()))
        self.right("none x0 |- nat x0\nsplit 0", ("none x0 |- nat x0", ()))

    def test_all_behind_a_premise_ahead_of_the_next(self):
        self.right("p x0 |- p x0\nuse 0\nuse 0\nby\nuse 0\nby\nby\nby", ("p x0 |- p x0", (1, 6)), ("p x0 |- p x0", (2, 3)),
                   ("p x0 |- p x0", ()), ("p x0 |- p x0", (4, 5)), ("p x0 |- p x0", ()), ("p x0 |- p x0", ()),
                   ("p x0 |- p x0", ()), defs=PAIR)
        self.right("p x0, q x1 |- q x1\nuse 0\nby\ncut p x0\nby\nby\nby", ("p x0, q x1 |- q x1", (1, 2, 5)),
                   ("p x0, q x1 |- q x1", ()), ("p x0, q x1 |- q x1", (3, 4)), ("p x0, q x1 |- p x0", ()),
                   ("p x0, q x1 |- q x1", ()), ("p x0, q x1 |- q x1", ()), defs=PAIR)

    def test_thirty_lines(self):
        text = "nat x0 |- nat x0\n" + "\n".join(["as nat x0 |- nat x0 ; x0=x0"] * 29 + ["by"])
        self.right(text, *[("nat x0 |- nat x0", (line + 1,)) for line in range(29)], ("nat x0 |- nat x0", ()))

    def test_backs(self):
        saying = "p x0 |- p x0"
        row = (saying, ())
        self.right(saying + "\nback 0 x0=x0", row, defs=PAIR)
        self.right(saying + "\nuse 0\nback 0 x0=x0\nback 2 x0=x0", (saying, (1, 2)), row, row, defs=PAIR)
        self.right(saying + "\nuse 0\nback 2 x0=x0\nuse 0\nby\nback 1 x0=x0", (saying, (1, 2)), row, (saying, (3, 4)), row, row,
                   defs=PAIR)
        self.right(saying + "\nuse 0\nback 4 x0=x0\nuse 0\nback 1 x0=x0\nby", (saying, (1, 2)), row, (saying, (3, 4)), row, row,
                   defs=PAIR)

    def test_every_line_back_to_every_other(self):
        for first in range(3):
            for second in range(3):
                chart = chart_in(f"p x0 |- p x0\nuse 0\nback {first} x0=x0\nback {second} x0=x0")
                self.told(is_right(PAIR, chart), True)

    def test_own_lists(self):
        self.asked_twice(lines, NUMBERS, EVEN_IS_NAT)
        self.asked_twice(lines, NUMBERS, chart_in("|- nat 0\nlean abc -"), known=[("abc", saying_in("|- nat 0"))])

    def test_nothing_is_changed(self):
        defs = definitions_in("\n".join([NAT, EVEN]))
        known = [("abc", saying_in("|- nat x0"))]
        kept = deepcopy((EVEN_IS_NAT, known))
        for _ in range(2):
            lines(defs, EVEN_IS_NAT, known=known)
            is_right(defs, (EVEN_IS_NAT[0], EVEN_IS_NAT[1][:2]), known=known)
        self.told((EVEN_IS_NAT, known), kept)
        self.told(defs == definitions_in("\n".join([NAT, EVEN])), True)

    def test_by_name(self):
        known = [("abc", saying_in("|- nat x0"))]
        chart = chart_in("|- nat 0\nlean abc x0=0")
        self.told(lines(known=known, chart=chart, defs=NUMBERS), [(saying_in("|- nat 0"), chart[1][0], ())])
        self.told(is_right(known=known, chart=chart, defs=NUMBERS), True)
        self.told(is_right(chart=chart, defs=NUMBERS), False)
        self.refused(BadChart, 0, lines, chart=chart, defs=NUMBERS)
        self.assertRaises(TypeError, lines, NUMBERS, chart, known)
        self.assertRaises(TypeError, is_right, NUMBERS, chart, known)

    def test_as_worded(self):
        drawn = 0
        for seed in range(300):
            draw = Random(seed)
            defs = drawn_definitions(seed)
            chart = drawn_chart(draw, defs, drawn_saying(draw, defs, [0, 1], 3, 2), 12)
            if chart is not None:
                drawn += 1
                told = lines(defs, chart)
                self.told([saying for saying, _, _ in told], Plain(defs, chart).sayings)
                self.told([(line, place) for line, row in enumerate(told) for place in row[2]],
                          sorted((above, line) for line, above in Plain(defs, chart).above.items()))
                self.told(is_right(defs, chart), True)
                self.refused(BadChart, len(chart[1]) - 1, lines, defs, (chart[0], chart[1][:-1]))
                self.refused(BadChart, len(chart[1]), lines, defs, (chart[0], (*chart[1], ("by",))))
        self.assertGreater(drawn, 100)


class Refused(Charts):
    def test_no_steps(self):
        self.bad(0, "|- nat 0")
        self.bad(0, "nat x0 |- nat x0")

    def test_steps_wanting(self):
        self.bad(1, "|- nat s(0)\nuse 1")
        self.bad(1, "even x0 |- nat x0\nsplit 0")
        self.bad(2, "even x0 |- nat x0\nsplit 0\nuse 0")
        self.bad(5, "even x0 |- nat x0\nsplit 0\nuse 0\nuse 1\nsplit 0\nuse 1")

    def test_steps_left(self):
        self.bad(1, "nat x0 |- nat x0\nby\nby")
        self.bad(1, "nat x0 |- nat x0\nby\nuse 7\nby")
        self.bad(3, "p x0 |- p x0\nuse 0\nby\nby\nby\nby", PAIR)
        self.bad(1, "none x0 |- nat x0\nsplit 0\nsplit 0")

    def test_a_step_that_can_not_be_done(self):
        self.bad(0, "|- nat 0\nby")
        self.bad(0, "|- nat 0\nuse 1")
        self.bad(0, "nat x99 |- odd x0\nsplit 0\nby")
        self.bad(0, "|- nat 0\ncut nat x0\nby\nby")
        self.bad(0, "|- nat 0\nas |- nat x0 ; x0=x0\nby")
        self.bad(2, "even x0 |- nat x0\nsplit 0\nuse 0\nuse 0\nsplit 0\nuse 1\nback 0 x0=x2")
        self.bad(4, "even x0 |- nat x0\nsplit 0\nuse 0\nuse 1\nsplit 0\nuse 0\nback 0 x0=x2")
        self.bad(1, "even x0 |- nat x0\nsplit 0\nby\nby\nby")

    def test_such_a_step_ahead_of_steps_wanting_and_left(self):
        self.bad(1, "p x0 |- p x0\nuse 0\nuse 1", PAIR)
        self.bad(2, "p x0 |- p x0\nuse 0\nby\nuse 1\nby\nby", PAIR)
        self.bad(0, "|- nat 0\nby\nby\nby")

    def test_steps_wanting_ahead_of_backs(self):
        self.bad(2, "p x0 |- p x0\nuse 0\nback 7 x0=x0", PAIR)
        self.bad(3, "p x0 |- p x0\nuse 0\nuse 0\nback 0 -", PAIR)
        self.bad(2, "p x0 |- p x0\nuse 0\nback 2 x0=x0", PAIR)

    def test_steps_left_ahead_of_backs(self):
        self.bad(3, "p x0 |- p x0\nuse 0\nback 7 x0=x0\nback 0 -\nby", PAIR)
        self.bad(1, "p x0 |- p x0\nback 1 x0=x0\nby", PAIR)

    def test_other_steps_ahead_of_backs(self):
        self.bad(2, "p x0 |- p x0\nuse 0\nback 7 x0=x0\nuse 7", PAIR)
        self.bad(2, "p x0 |- p x0\nuse 0\nback 0 -\nlean abc -", PAIR)

    def test_a_back_to_no_line(self):
        self.bad(0, "p x0 |- p x0\nback 1 x0=x0", PAIR)
        self.bad(0, f"p x0 |- p x0\nback {10 ** 9} x0=x0", PAIR)
        self.bad(2, "p x0 |- p x0\nuse 0\nback 0 x0=x0\nback 3 x0=x0", PAIR)
        self.bad(1, "p x0 |- p x0\nuse 0\nback 3 x0=x0\nback 3 x0=x0", PAIR)

    def test_a_back_by_a_binding_that_does_not_do(self):
        for binding in ["-", "x0=x1", "x1=x2", "x0=x2 x1=x1", "x0=s(x2)", "x0=0"]:
            self.bad(5, f"even x0 |- nat x0\nsplit 0\nuse 0\nuse 1\nsplit 0\nuse 1\nback 0 {binding}")
        self.bad(5, "even x0 |- nat x0\nsplit 0\nuse 0\nuse 1\nsplit 0\nuse 1\nback 1 -")
        self.bad(5, "even x0 |- nat x0\nsplit 0\nuse 0\nuse 1\nsplit 0\nuse 1\nback 3 x1=x2")
        self.bad(3, "nat x0 |- less x0 s(x0)\nsplit 0\nuse 0\nuse 1\nback 2 x1=x1")

    def test_the_first_of_several_backs(self):
        self.bad(1, "p x0 |- p x0\nuse 0\nback 0 -\nback 7 x0=x0", PAIR)
        self.bad(1, "p x0 |- p x0\nuse 0\nback 7 x0=x0\nback 0 -", PAIR)
        self.bad(2, "p x0 |- p x0\nuse 0\nback 0 x0=x0\nback 0 -", PAIR)

    def test_other_definitions(self):
        self.refused(BadChart, 1, lines, definitions_in(EVEN), EVEN_IS_NAT)
        self.refused(BadChart, 1, lines, Definitions(), EVEN_IS_NAT)


class Leans(Charts):
    KNOWN = [("abc", saying_in("nat x0 |- nat s(x0)")), ("z", saying_in("|- odd 0")), ("even", saying_in("even x3 |- nat x3"))]

    def test_known(self):
        self.right("nat x5, odd x5 |- nat s(x5)\nlean abc x0=x5", ("nat x5, odd x5 |- nat s(x5)", ()), known=self.KNOWN)
        self.right("odd x1 |- odd 0\nlean z -", ("odd x1 |- odd 0", ()), known=self.KNOWN)
        self.right("|- odd 0\ncut odd 0\nlean z -\nlean z -", ("|- odd 0", (1, 2)), ("|- odd 0", ()), ("odd 0 |- odd 0", ()),
                   known=self.KNOWN)

    def test_known_as_a_tuple(self):
        self.right("|- odd 0\nlean z -", ("|- odd 0", ()), known=tuple(self.KNOWN))
        self.bad(0, "|- odd 0\nlean y -", known=tuple(self.KNOWN))

    def test_unknown(self):
        self.bad(0, "|- odd 0\nlean y -", known=self.KNOWN)
        self.bad(0, "|- odd 0\nlean z -")
        self.bad(0, "|- odd 0\nlean z -", known=[])
        self.bad(0, "|- odd 0\nlean z -", known=self.KNOWN[:1])
        self.bad(1, "|- odd 0\ncut odd 0\nlean y -\nlean z -", known=self.KNOWN)
        self.bad(2, "|- odd 0\ncut odd 0\nlean z -\nlean y -", known=self.KNOWN)

    def test_by_a_binding_that_does_not_do(self):
        for binding in ["-", "x0=x4", "x5=x5", "x0=x5 x5=x5", "x0=s(x5)"]:
            self.bad(0, "nat x5 |- nat s(x5)\nlean abc " + binding, known=self.KNOWN)
        self.bad(0, "nat x5 |- nat s(x5)\nlean z -", known=self.KNOWN)
        self.bad(0, "odd x5 |- nat s(x5)\nlean abc x0=x5", known=self.KNOWN)

    def test_what_is_known_need_not_be_leaned_on(self):
        self.told(lines(NUMBERS, EVEN_IS_NAT, known=self.KNOWN), lines(NUMBERS, EVEN_IS_NAT))


class IsRight(Case):
    def test_odd_things(self):
        for thing in odd_things():
            self.told(is_right(NUMBERS, thing), False)
            self.told(is_right(NUMBERS, (SAYING, thing)), False)
            self.told(is_right(NUMBERS, (thing, (("by",),))), False)
            self.told(is_right(NUMBERS, (saying_in("|- nat 0"), (thing,))), False)

    def test_kinds(self):
        saying, steps = EVEN_IS_NAT
        self.told(is_right(NUMBERS, EVEN_IS_NAT), True)
        for thing in [[saying, steps], (list(saying), steps), (saying, list(steps)), (saying, tuple(map(list, steps))),
                      (saying, (*steps[:-1], ("back", False, ((0, 2),)))), (saying, (*steps[:-1], ("back", 0, [(0, 2)]))),
                      (saying, steps, ()), None, "even x0 |- nat x0"]:
            self.told(is_right(NUMBERS, thing), False)

    def test_the_same_again(self):
        self.told([is_right(NUMBERS, EVEN_IS_NAT) for _ in range(3)], [True] * 3)


class LeanedAndGoals(Case):
    def test_leaned(self):
        for text, wanted in [("|- odd 0\nlean z -", ["z"]), ("|- odd 0\nlean z -\nlean abc x0=0\nlean z x1=0\nlean b -",
                             ["abc", "b", "z"]), ("|- odd 0\nby", []), ("|- odd 0", []), ("|- odd 0\nback 3 -\nlean by -", ["by"])]:
            self.told(leaned(chart_in(text)), wanted)

    def test_goals(self):
        for text, wanted in [("|- odd 0\nback 0 -", [0]), ("p x0 |- p x0\nuse 0\nback 2 x0=x0\nback 0 x0=x0", [0, 2]),
                             ("|- odd 0\nuse 1\nback 10 -\nback 9 -\nback 10 x0=0\nback 2 -", [2, 9, 10]), ("|- odd 0\nby", []),
                             ("|- odd 0", []), ("|- odd 0\nuse 7\nsplit 3\nlean by -", [])]:
            self.told(goals(chart_in(text)), wanted)
        self.told(goals(EVEN_IS_NAT), [0])

    def test_own_lists(self):
        for call in [leaned, goals]:
            for text in ["|- odd 0\nlean z -\nback 7 -\nback 0 -", "|- odd 0"]:
                self.asked_twice(call, chart_in(text))

    def test_by_name(self):
        self.told(leaned(chart=chart_in("|- odd 0\nlean z -")), ["z"])
        self.told(goals(chart=EVEN_IS_NAT), [0])


if __name__ == "__main__":
    unittest.main()

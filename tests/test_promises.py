"""The document's point 1, (b) to (g), by small charts, sayings and shelves gone through one by one."""

import unittest
from itertools import product

from helper import EVEN, NAT, Case, steps
from plaincharts import filled_atom
from plainwalks import plain_charts
from ringproofs.charts import goals, leaned, lines
from ringproofs.charttexts import chart_in
from ringproofs.deeds import do
from ringproofs.deftexts import definitions_in
from ringproofs.errors import BadChart, NotLetBy, NoWorld, RingError
from ringproofs.heights import is_derivation
from ringproofs.rounds import is_let_by, judged
from ringproofs.ruletexts import rule_in
from ringproofs.sayingtexts import saying_in
from ringproofs.search import search
from ringproofs.shelf import Shelf
from ringproofs.shorter import shorter
from ringproofs.stepped import is_stepped, stepped
from ringproofs.straight import is_straight, straight
from ringproofs.together import put_in
from ringproofs.trails import longest, shows_trail
from ringproofs.walks import walked
from ringproofs.worlds import bars, first_world, holds, worlds
from test_charts import EVEN_IS_NAT
from test_shelf import all_of, call, stands_by

SMALL = definitions_in(NAT + "\n" + EVEN)
TURNS = definitions_in("a 0\na s(x0) if b x0\na x0 if a x0\nb x0 if a x0\nc x0 if a x0, b x0")
SAYINGS = [(SMALL, ["even x0 |- nat x0", "odd x0 |- nat x0", "nat x0 |- even x0", "nat x0, even x0 |- odd x0", "|- nat s(0)",
                    "odd x0, even x0 |- nat s(x0)", "even 0 |- odd 0"]),
           (TURNS, ["a x0 |- b x0", "b x0 |- a x0", "a x0 |- c x0", "a x0, b x0 |- c s(x0)", "a s(x0) |- a x0", "|- c 0", "c x0 |- c s(x0)"])]


def all_sayings():
    for defs, texts in SAYINGS:
        for text in texts:
            yield defs, saying_in(text)


def all_charts(most):
    """All right charts of so many lines of by, back, split and use."""
    for defs, saying in all_sayings():
        for many in range(1, most + 1):
            for rows in plain_charts(defs, saying, many):
                yield defs, (saying, tuple(rows))


class Promises(Case):
    def walks(self, defs, chart, most):
        """That the walk comes to an end in each world in which the hyps hold, and the goal is led there; the longest."""
        best = None
        for world in worlds(chart[0], most):
            hyps = [filled_atom(hyp, dict(world)) for hyp in chart[0][0]]
            if all(holds(defs, hyp) for hyp in hyps):
                trail, told = walked(defs, chart, world)
                goal = filled_atom(chart[0][1], dict(world))
                self.assertTrue(is_derivation(defs, goal, told))
                best = (world, len(trail)) if best is None or len(trail) > best[1] else best
            else:
                wrong = [hyp for hyp in hyps if not holds(defs, hyp)][0]
                self.refused(NoWorld, wrong, walked, defs, chart, world)
            self.assertFalse(bars(defs, chart[0], world))
        self.told(longest(defs, chart, most), best)

    def test_small_charts_one_by_one(self):
        let_by = by_steps = 0
        for defs, chart in all_charts(6):
            word, shown = judged(defs, chart)
            told = straight(defs, chart)
            self.told(told[0], chart[0])
            self.told(is_straight(lines(defs, told)), True)
            self.told(is_let_by(defs, told), word == "falls")
            if word == "falls":
                let_by += 1
                self.told(first_world(defs, chart[0], 4), None)
                self.walks(defs, chart, 3)
                told = shorter(defs, chart)
                self.told((told[0], is_let_by(defs, told), leaned(told)), (chart[0], True, []))
            else:
                self.assertRaises(NotLetBy, longest, defs, chart, 1)
                self.assertRaises(NotLetBy, shorter, defs, chart)
            places = stepped(defs, chart)
            if places is not None:
                by_steps += places != []
                self.told(word, "falls")
                self.told([line for line, _ in places], goals(chart))
                self.told(is_stepped(defs, chart, places), True)
        self.assertGreater(let_by, 30)
        self.assertGreater(by_steps, 10)

    def test_backs_to_all_lines_of_one_shape(self):
        # All ways to go back, to lines above, beside and beneath, of one tree of use and split.
        defs = definitions_in("p x0 if p x0, p x0\nn x0 if n x0")
        let_by = crooked = 0
        for ends in product(range(6), repeat=3):
            rows = ["use 0", "split 0", f"back {ends[0]} x0=x0 x1=x1", "use 0", f"back {ends[1]} x0=x0 x1=x1",
                    f"back {ends[2]} x0=x0 x1=x1"]
            chart = chart_in("\n".join(["n x1 |- p x0", *rows]))
            told = straight(defs, chart)
            self.told(is_straight(lines(defs, told)), True)
            self.told(is_let_by(defs, told), is_let_by(defs, chart))
            let_by += is_let_by(defs, chart)
            crooked += not is_straight(lines(defs, chart))
            if stepped(defs, chart) is not None:
                self.told(is_let_by(defs, chart), True)
        self.assertGreater(let_by, 0)
        self.assertGreater(crooked, 100)

    def test_the_searcher(self):
        words = {}
        for defs, saying in all_sayings():
            for most in (1, 3, 5):
                word, found = search(defs, saying, most)
                words[word] = words.get(word, 0) + 1
                if word == "world":
                    self.told(bars(defs, saying, found), True)
                elif word == "none":
                    self.told(found, most)
                    for many in range(1, min(most, 4) + 1):
                        self.assertFalse([rows for rows in plain_charts(defs, saying, many) if is_let_by(defs, (saying, tuple(rows)))])
                else:
                    self.told(is_let_by(defs, found), True)
                    self.told(is_straight(lines(defs, found)), True)
                    self.told(found[0], saying)
                    self.told(search(defs, saying, len(found[1]) - 1)[0], "none")
                    self.walks(defs, found, 3)
        self.assertEqual(sorted(words), ["chart", "none", "world"])

    def test_shelves_one_by_one(self):
        # All rows of four of these deeds: rules by which charts fall, charts that lean on them, and what takes them back.
        rules = [rule_in("n 0"), rule_in("n s(x0) if n x0")]
        deeds = [("tell", rule_in("n s(x0)")), ("untell", 0), ("add", "a", chart_in("n x0 |- n s(x0)\nuse 1\nby")),
                 ("add", "b", chart_in("n x0 |- n s(s(x0))\ncut n s(x0)\nlean a x0=x0\nlean a x0=s(x0)")), ("drop", "a"), ("undo",)]
        refused = stood = 0
        for row in product(deeds, repeat=4):
            shelf, other = Shelf(rules), Shelf(rules)
            told, refusal = [], None
            try:
                told = do(shelf, row)
            except RingError as one:
                refusal = one
                refused += 1
            ahead = shelf.log()[-1][1]
            self.told(shelf.log(), [("in", 4), *[deed[0] for deed in row[:ahead]], ("out", ahead)])
            self.told(shelf.is_open(), True)
            alone = [call(other, deed) for deed in row[:ahead]]
            if refusal is None:
                self.told(told, alone)
            else:
                self.refused(type(refusal), refusal.what, call, other, row[ahead])
            self.told(all_of(shelf)[:5], all_of(other)[:5])
            stood += self.stands(shelf)
        self.assertGreater(refused, 500)
        self.assertGreater(stood, 100)

    def stands(self, shelf):
        """That what stands is let by, by the rules told by now, and put together too; how many stand."""
        defs = shelf.definitions()
        standing = shelf.standing()
        self.told(standing, stands_by(defs, shelf.charts()))
        for name in standing:
            put = put_in(shelf.chart(name), shelf.charts())
            self.told((put[0], leaned(put), is_let_by(defs, put)), (shelf.saying(name), [], True))
            told = shorter(defs, put)
            self.told((told[0], leaned(told), is_let_by(defs, told)), (shelf.saying(name), [], True))
            self.walks(defs, put, 2)
        return len(standing)

    def test_rules_told_behind(self):
        defs = definitions_in(NAT + "\n" + EVEN)
        world = ((0, steps(2)),)
        calls = [(walked, world), (longest, 3), (shows_trail, world, []), (stepped,), (is_stepped, []), (straight,), (shorter,)]
        first = [call(defs, EVEN_IS_NAT, *more) for call, *more in calls]
        self.told([call(defs, EVEN_IS_NAT, *more) for call, *more in calls], first)
        defs.tell(rule_in("even s(x0)"))
        for call, *more in calls:
            self.refused(BadChart, 6, call, defs, EVEN_IS_NAT, *more)

    def test_walks_of_great_terms(self):
        for many in range(7):
            if many % 2:
                self.refused(NoWorld, ("even", steps(many)), walked, SMALL, EVEN_IS_NAT, ((0, steps(many)),))
            else:
                self.assertEqual(len(walked(SMALL, EVEN_IS_NAT, ((0, steps(many)),))[0]), 5 * many // 2 + 2)


if __name__ == "__main__":
    unittest.main()

import unittest

from helper import EVEN, LESS, NAT, Case
from ringproofs.charttexts import chart_text
from ringproofs.definitions import Definitions
from ringproofs.desk import answers
from ringproofs.errors import BadRow, RingError
from ringproofs.ruletexts import rule_in
from ringproofs.search import search
from ringproofs.sayingtexts import saying_in
from ringproofs.shelf import Shelf
from ringproofs.shorter import shorter
from ringproofs.stepped import stepped
from ringproofs.termtexts import binding_text
from ringproofs.together import put_in
from ringproofs.walks import walked
from ringproofs.worlds import first_world, worlds
from test_charts import EVEN_IS_NAT
from test_shelf import AGAIN
from test_together import ON, TWICE

RULES = [f"rule {row}" for row in (NAT + "\n" + EVEN).split("\n")]
TOLD = ["0", "1", "2", "3", "4"]


def add_row(name, chart):
    return f"add {name} " + chart_text(chart).replace("\n", " / ")


EN, ON_ROW = add_row("en", EVEN_IS_NAT), add_row("on", ON)


class Answers(Case):
    def so(self, *pairs):
        """That rows are answered so, the rules of nat, even and odd and then the charts en and on told ahead."""
        rows = [*RULES, EN, ON_ROW, *pairs[::2]]
        self.told(answers("\n".join(rows)), [*TOLD, "done", "done", *pairs[1::2]])

    def test_bare(self):
        self.told(answers(""), [])
        self.told(answers(text=""), [])

    def test_rule(self):
        self.told(answers("\n".join(RULES)), TOLD)
        self.so("rule nat 0", "5", "rule nat x0 x1", "refused Clash", "rule p x0 x1 if q x0, r x0 x1", "6",
                "rule less 0 s(x0) if odd x0 x0", "refused Clash", "rule r x0", "refused Clash", "rule even s(x0) if odd x0", "7")

    def test_unrule(self):
        self.so("unrule 5", "refused NoRule", "unrule 4", "done", "unrule 4", "refused NoRule", "unrule 9999", "refused NoRule",
                "unrule 0", "done", "rule nat 0", "3", "undo", "done", "undo", "done", "rule nat 0", "4")

    def test_add_and_drop(self):
        self.so("names", "en on", add_row("again", AGAIN), "done", "names", "again en on", "drop en", "refused Leant", "drop again", "done",
                "drop again", "refused Unknown", EN, "refused Known", "add b nat x0 |- nat x0 / by", "done", "names", "b en on",
                "add c |- nat 0 / use 0", "done", "add d |- nat 0", "refused BadChart", "add d |- nat 0 / use 0 / by", "refused BadChart",
                "add d nat x0 |- even x0 / back 0 x0=x0", "refused NotLetBy", "add d |- nat 0 / lean zz -", "refused Leans",
                "add d |- nat 0 / lean d -", "refused Leans")

    def test_add_takes_all_steps(self):
        self.so(add_row("two", TWICE), "refused BadChart", "rule less 0 s(x0)", "5", add_row("two", TWICE), "done",
                "add as nat x0 |- nat s(x0) / as nat x3 |- nat s(x3) ; x3=x0 / use 1 / by", "done", "bare two", "20", "bare as", "3")

    def test_too_many(self):
        self.told(answers("\n".join(["rule nat 0", *[f"add {name} |- nat 0 / use 0" for name in "abcdefghi"], "add a |- nat 0", "names"])),
                  ["0", *["done"] * 8, "refused TooMany", "refused Known", "a b c d e f g h"])

    def test_undo(self):
        self.so("undo", "done", "names", "en", "undo", "done", "names", "-", *["undo", "done"] * 5, "undo", "nothing", "undo", "nothing",
                "rule less x0 x1", "0")
        self.told(answers("undo\nrule nat 0\nundo\nundo"), ["nothing", "0", "done", "nothing"])

    def test_stands(self):
        self.so("stands en", "yes", "stands on", "yes", "stands zz", "refused Unknown", "rule even s(x0)", "5", "stands en", "no",
                "stands on", "no", "stands zz", "refused Unknown", "undo", "done", "stands on", "yes", "unrule 0", "done", "stands on", "no")
        self.told(answers("stands a"), ["refused Unknown"])

    def test_world(self):
        self.so("world nat x0 |- even x0 1", "none", "world nat x0 |- even x0 2", "x0=s(0)", "world nat x0 |- even x0 4", "x0=s(0)",
                "world |- odd 0 1", "-", "world |- even 0 4", "none", "world even x0, odd x1 |- nat f(x0,x1) 2", "x0=0 x1=s(0)",
                "world even x0 |- nat x0 4", "none")

    def test_seek(self):
        self.so("seek even x0 |- nat x0 6", "chart 6", "seek even x0 |- nat x0 5", "none", "seek nat x0 |- even x0 1", "world x0=s(0)",
                "seek |- odd 0 3", "world -", "seek nat x0 |- nat x0 1", "chart 1", "seek |- nat s(s(0)) 6", "chart 3")

    def test_walk(self):
        self.so("walk en x0=0", "2", "walk en x0=s(s(0))", "7", "walk en x0=s(0)", "refused NoWorld", "walk on x5=s(0)", "5",
                "walk on x5=s(s(s(0)))", "10", "walk on x5=0", "refused NoWorld", "walk zz x0=0", "refused Unknown",
                "walk zz -", "refused Unknown")

    def test_walk_in_no_world(self):
        for binding in ["-", "x0=x0", "x0=s(x1)", "x1=0", "x0=0 x1=0", "x0=f(0,x0)"]:
            self.so("walk en " + binding, "none", "rule even s(x0)", "5", "walk en " + binding, "none", "walk zz " + binding,
                    "refused Unknown")
        self.so("add b |- nat 0 / use 0", "done", "walk b -", "1", "walk b x0=0", "none")

    def test_short_steps_and_bare(self):
        self.so("bare en", "6", "short en", "6", "steps en", "0:0", "bare on", "9", "short on", "9", "steps on", "3:0",
                "add b nat x0 |- nat x0 / split 0 / use 0 / use 1 / by", "done", "bare b", "4", "short b", "1", "steps b", "-",
                "short zz", "refused Unknown", "steps zz", "refused Unknown", "bare zz", "refused Unknown")

    def test_steps_of_several_and_of_none(self):
        rules = ["rule n x0 if n x0", "rule g x0 if g x0, g x0"]
        ids = "x0=x0 x1=x1 x2=x2"
        within = f"add a n x1, n x2 |- g x0 / use 0 / split 0 / back 0 {ids} / split 1 / use 0 / back 3 {ids} / split 0 / back 0 {ids}"
        swapped = "add b n x1, n x2 |- g x0 / split 0 / back 0 x0=x0 x1=x2 x2=x1"
        self.told(answers("\n".join([*rules, within, swapped, "steps a", "steps b", "stands b"])),
                  ["0", "1", "done", "done", "0:0 3:1", "none", "yes"])

    def test_a_chart_that_stands_no_more(self):
        self.so("rule even s(x0)", "5", "stands on", "no", "bare on", "9", "walk on x5=s(0)", "refused BadChart", "short on",
                "refused BadChart", "steps on", "refused BadChart", "walk on x5=0", "refused BadChart", "walk on x4=0", "none", "undo", "done",
                "walk on x5=s(0)", "5")
        # With a rule less a premise is wanted no more, so that a step is left.
        rows = ["rule n 0", "rule n s(x0) if n x0", "rule m x0", "rule k x0 if m x0",
                "add a n x0 |- k x0 / split 0 / use 0 / use 0 / use 0 / use 0", "unrule 1", "stands a", "walk a x0=0", "short a", "steps a",
                "undo", "walk a x0=0", "short a"]
        self.told(answers("\n".join(rows)), ["0", "1", "2", "3", "done", "done", "no", "refused BadChart", "refused BadChart",
                                             "refused BadChart", "done", "3", "5"])

    def test_too_long(self):
        rows = ["rule nat 0", "rule nat s(x0) if nat x0", "add a nat x0 |- nat x0 / " + " / ".join(["cut nat x0 / by"] * 9) + " / by"]
        told = ["0", "1", "done"]
        for name, last in ["ba", "cb", "dc", "ed"]:
            rows.append(f"add {name} nat x0 |- nat x0 / cut nat x0 / lean {last} x0=x0 / lean {last} x0=x0")
            told.append("done")
        rows += ["stands e", "bare a", "bare b", "bare c", "bare d", "bare e", "short d", "short e", "steps e", "walk e x0=0", "walk e -"]
        told += ["yes", "19", "41", "85", "173", "refused TooLong", "1", "refused TooLong", "refused TooLong", "refused TooLong", "none"]
        self.told(answers("\n".join(rows)), told)

    def test_a_shelf_of_its_own(self):
        self.so("names", "en on")
        self.told(answers("names"), ["-"])
        text = "\n".join([*RULES, EN, "stands en"])
        self.told(answers(text), answers(text))
        self.asked_twice(answers, text)

    def test_as_the_functions_tell(self):
        shelf = Shelf([rule_in(row[5:]) for row in [*RULES, *["rule " + row for row in LESS.split("\n")]]])
        charts = [("en", EVEN_IS_NAT), ("on", ON), ("two", TWICE), ("again", AGAIN)]
        rows = [*RULES, *["rule " + row for row in LESS.split("\n")], *[add_row(*pair) for pair in charts]]
        for name, chart in charts:
            shelf.add(name, chart)
        defs = shelf.definitions()
        wanted = [str(k) for k in range(7)] + ["done"] * 4
        for name, chart in charts:
            put = put_in(chart, charts)
            rows += [f"bare {name}", f"short {name}", f"steps {name}", f"stands {name}"]
            wanted += [str(len(put[1])), str(len(shorter(defs, put)[1])),
                       " ".join(f"{line}:{place}" for line, place in stepped(defs, put)), "yes"]
            for world in worlds(chart[0], 3)[:8]:
                rows.append(f"walk {name} {binding_text(world)}")
                try:
                    wanted.append(str(len(walked(defs, put, world)[0])))
                except RingError as refusal:
                    wanted.append("refused " + type(refusal).__name__)
        for text in ["nat x0 |- less x0 s(x0)", "less x0 x1 |- nat x1", "|- less 0 0", "less x0 x0 |- odd 0", "nat x0, nat x1 |- less x0 x1"]:
            for most in (1, 4):
                world = first_world(defs, saying_in(text), most)
                told = search(defs, saying_in(text), most)
                rows += [f"world {text} {most}", f"seek {text} {most}"]
                wanted.append("none" if world is None else binding_text(world))
                wanted.append({"world": lambda: f"world {binding_text(told[1])}", "chart": lambda: f"chart {len(told[1][1])}",
                               "none": lambda: "none"}[told[0]]())
        self.told(answers("\n".join(rows)), wanted)
        self.assertTrue({"none", "-", "refused NoWorld"} <= set(wanted))
        self.told(defs == Definitions([rule_in(row[5:]) for row in rows[:7]]), True)

    def test_sixty_rows(self):
        rows = [*RULES, EN, *["stands en", "short en", "seek even x0 |- nat x0 6", "world even x0 |- nat x0 4"] * 13, "undo", "undo"]
        self.assertEqual(len(rows), 60)
        self.told(answers("\n".join(rows)), [*TOLD, "done", *["yes", "6", "chart 6", "none"] * 13, "done", "done"])


GOOD = [*RULES, EN, ON_ROW, "names", "undo", "unrule 0", "unrule 9999", "drop en", "stands en", "world nat x0 |- even x0 4",
        "seek |- nat 0 6", "walk en x0=0", "walk en -", "short en", "steps en", "bare en", "add b |- nat 0", "rule p x0"]


class Rows(Case):
    def bad(self, *rows):
        """That each of these rows isn't so written, wherever it stands."""
        for row in rows:
            with self.subTest(row):
                self.refused(BadRow, 0, answers, row)
                self.refused(BadRow, 2, answers, "\n".join(["names", "undo", row, "", "names"]))
                self.refused(BadRow, len(GOOD), answers, "\n".join([*GOOD, row]))

    def test_good(self):
        self.told(len(answers("\n".join(GOOD))), len(GOOD))
        for row in GOOD:
            self.told(len(answers(row)), 1)

    def test_a_blank_too_many_or_too_few(self):
        for row in GOOD:
            self.bad(" " + row, row + " ", *[row[:at] + " " + row[at:] for at, sign in enumerate(row) if sign == " "])
            self.bad(*[row[:at] + row[at + 1:] for at, sign in enumerate(row) if sign == " " and not row.startswith("rule even")][:1])

    def test_bare_rows(self):
        self.refused(BadRow, 0, answers, "\n")
        self.refused(BadRow, 1, answers, "names\n")
        self.refused(BadRow, 0, answers, "\nnames")
        self.refused(BadRow, 1, answers, "names\n\nnames")
        self.refused(BadRow, 0, answers, " ")

    def test_words(self):
        self.bad("name", "Names", "NAMES", "names 0", "undo 0", "undo undo", "rules nat 0", "tell nat 0", "untell 0", "help", "-", "0", "names-",
                 "log", "twin", "standing", "search |- nat 0 3", "chart en", "leans en", "#", "rule", "unrule", "add", "drop", "stands", "world",
                 "seek", "walk", "short", "steps", "bare")

    def test_each_row_spoilt(self):
        self.bad("rule nat", "rule nat s(0)", "rule nat x1", "rule nat 0 if", "rule nat 0 if nat 0", "rule Nat 0", "rule nat 0,",
                 "rule nat x0 if odd x1", "rule if 0", "rule toolong 0", "unrule one", "unrule x0", "unrule 0 0", "drop", "drop if", "drop En", "drop en on", "drop e1",
                 "drop abcdefg", "stands en on", "stands 0", "short EN", "short en x0=0", "steps en 0", "bare -", "bare en 1", "walk en",
                 "walk en x0", "walk en x0=", "walk en x0=0,", "walk en x0=0 x0=0", "walk en x1=0 x0=0", "walk if x0=0", "walk en -  ", "walk x0=0",
                 "walk en x100=0", "walk en s(0)", "walk - en")

    def test_charts_spoilt(self):
        self.bad("add b", "add b nat 0", "add b |- nat 0 /", "add b |- nat 0 / ", "add b / use 0", "add b |- nat 0 / use", "add b |- nat 0 use 0",
                 "add b |- nat 0 / use 0 /", "add b |- nat 0 / / use 0", "add b |- nat 0 // use 0", "add b |- nat 0 /use 0", "add b |- nat 0/ use 0",
                 "add b |- nat 0 / use 00", "add b |- nat 0 / Use 0", "add b |- nat 0 / by by", "add if |- nat 0 / use 0", "add |- nat 0 / use 0",
                 "add b |- nat 0 / as |- nat 0", "add b |- nat 0 / back 0", "add b |- nat 0 / lean en", "add b |- nat 0 / use 0; use 0",
                 "add b |- nat 0 / use -1", "add b nat x0 |- nat x0, nat x1 / by", "add b nat x0, nat x0 |- nat x0 / by", "add abcdefg |- nat 0")

    def test_numbers(self):
        for word in ["unrule", "world |- nat 0", "seek |- nat 0"]:
            self.bad(*[f"{word} {number}" for number in ["01", "00", "-1", "+1", "1.", "10000", "99999", "0001", "1e1", "1,", "one", "", "--", "1_0",
                                                         "x1", "s(0)", str(10 ** 50)]])
        self.bad("world |- nat 0", "seek |- nat 0", "world |- nat 0 0", "world |- nat 0 5", "world |- nat 0 10", "seek |- nat 0 0",
                 "seek |- nat 0 7", "seek |- nat 0 60", "world |- nat 0 3 3", "world 3", "seek 3", "seek 3 |- nat 0", "world nat 0 3",
                 "seek nat x0 |- 3")
        for number in ["0", "1", "9", "10", "9999"]:
            self.told(answers(f"unrule {number}"), ["refused NoRule"])

    def test_numbers_within_steps(self):
        self.told(answers("add b |- nat 0 / use 12345"), ["refused BadChart"])
        self.told(answers(f"add b |- nat 0 / back {10 ** 9} -"), ["refused BadChart"])
        self.told(answers("add b |- nat 0 / lean c x99=0"), ["refused Leans"])

    def test_the_first_of_several(self):
        self.refused(BadRow, 1, answers, "names\nrules\n\nunrule 00")
        self.refused(BadRow, 3, answers, "\n".join([*RULES[:2], "drop zz", "unrule 10000", "nonsense"]))

    def test_ahead_of_all_refusals(self):
        self.refused(BadRow, 3, answers, "drop zz\nunrule 7\nadd b |- nat 0\nnames names")

    def test_each_sign_spoilt(self):
        for row in ["names", "undo", "unrule 3", "drop en", "seek |- nat 0 3", "walk en x0=0", "rule nat 0", "add b |- nat 0 / use 0"]:
            for at in range(len(row)):
                for sign in "?A|":
                    if row[at] != sign:
                        self.bad(row[:at] + sign + row[at + 1:])

    def test_deep_brackets(self):
        deep = "s(" * 2000 + "0" + ")" * 2000
        self.bad(f"rule nat {deep}", f"walk en x0={deep}", f"world |- nat {deep} 1", f"add b |- nat {deep} / by", f"add b |- nat 0 / cut nat {deep}")

    def test_by_name(self):
        self.told(answers(text="names"), ["-"])


if __name__ == "__main__":
    unittest.main()

import unittest

from helper import Case
from ringproofs.definitions import Definitions
from ringproofs.deftexts import definitions_in, definitions_text
from ringproofs.errors import BadRow
from ringproofs.ruletexts import rule_in

ROWS = ["nat 0", "nat s(x0) if nat x0", "even 0", "even s(x0) if odd x0", "odd s(x0) if even x0", "less 0 s(x0)",
        "less s(x0) s(x1) if less x0 x1", "nat 0"]


class DefinitionsText(Case):
    def test_both_ways(self):
        for many in range(1, len(ROWS) + 1):
            text = "\n".join(ROWS[:many])
            defs = definitions_in(text)
            self.assertIs(type(defs), Definitions)
            self.told(defs.all_rules(), [rule_in(row) for row in ROWS[:many]])
            self.told(definitions_text(defs), text)
            self.told(definitions_in(definitions_text(defs)) == defs, True)

    def test_none(self):
        self.told(definitions_text(Definitions()), "-")
        self.told(definitions_in("-").all_rules(), [])
        self.told(definitions_in("-") == Definitions(), True)

    def test_of_their_own(self):
        first = definitions_in("nat 0")
        first.tell(rule_in("odd 0"))
        self.told(definitions_text(definitions_in("nat 0")), "nat 0")

    def test_bad_rows(self):
        for text, row in [("", 0), (" ", 0), ("\n", 0), ("nat 0\n", 1), ("\nnat 0", 0), ("nat 0\n\nodd 0", 1), ("--", 0),
                          ("-\n", 0), ("-\n-", 0), ("- ", 0), (" -", 0), ("-\nnat 0", 0), ("nat 0\n-", 1), ("nat", 0),
                          ("nat 0 ", 0), (" nat 0", 0), ("nat 0\n odd 0", 1), ("nat 0\nodd 0 ", 1), ("nat 0, odd 0", 0),
                          ("nat 0\r\nodd 0", 0), ("nat 0;odd 0", 0), ("nat 0\nnat x1\nnat", 1), ("nat 0\nodd 0\neven 00", 2),
                          ("(" * 6000, 0), ("nat 0\n" + ")" * 5000, 1), ("nat 0\nnat " + "s(" * 1900 + "x0" + ")" * 1900, 1),
                          ("\n" * 5999, 0), ("nat x0 if if x0", 0)]:
            with self.subTest(text[:60]):
                self.refused(BadRow, row, definitions_in, text)

    def test_each_row_spoilt(self):
        for k in range(len(ROWS)):
            for spoilt in ["", " " + ROWS[k], ROWS[k] + " ", "-" + ROWS[k][1:], ROWS[k][:-1] + "(", "if " + ROWS[k]]:
                rows = ROWS[:k] + [spoilt] + ROWS[k + 1:]
                self.refused(BadRow, k, definitions_in, "\n".join(rows))
                self.refused(BadRow, k, definitions_in, "\n".join(rows + [""]))

    def test_rows_that_clash(self):
        self.refused(BadRow, 1, definitions_in, "nat 0\nnat 0 0")
        self.refused(BadRow, 0, definitions_in, "nat x0 if nat x0 x0\nodd 0")
        self.refused(BadRow, 2, definitions_in, "odd x0 if nat x0 x0\nodd 0\nnat 0\nnat")
        self.refused(BadRow, 1, definitions_in, "nat 0\nodd x0 if nat x0 x0\nnat")
        self.refused(BadRow, 1, definitions_in, "nat 0\nodd\nnat 0 0")

    def test_by_name(self):
        self.told(definitions_text(defs=definitions_in(text="nat 0")), "nat 0")
        self.refused(BadRow, 0, definitions_in, text="nat")


if __name__ == "__main__":
    unittest.main()

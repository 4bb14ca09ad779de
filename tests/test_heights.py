import unittest

from helper import GREAT_TERMS, NAT, NOUGHT, NUMBERS, ROUND, Case, left_comb, odd_things, steps, wide
from plainly import all_heights, drawn_definitions, plain_derivation
from ringproofs.definitions import Definitions
from ringproofs.deftexts import definitions_in
from ringproofs.heights import derivation, height, is_derivation
from ringproofs.ruletexts import atom_in
from ringproofs.trees import trees

TREE = "tree 0\ntree f(x0,x1) if tree x0, tree x1"
ALL = NUMBERS


class Height(Case):
    def test_nat(self):
        for many in range(12):
            self.told(height(ALL, ("nat", steps(many))), many + 1)
        self.told(height(ALL, ("nat", ("f", NOUGHT, NOUGHT))), None)
        self.told(height(ALL, ("nat", ("s", ("f", NOUGHT, NOUGHT)))), None)

    def test_even_and_odd(self):
        for many in range(12):
            self.told(height(ALL, ("even", steps(many))), many + 1 if many % 2 == 0 else None)
            self.told(height(ALL, ("odd", steps(many))), many + 1 if many % 2 == 1 else None)

    def test_less(self):
        for left in range(8):
            for right in range(8):
                self.told(height(ALL, ("less", steps(left), steps(right))), left + 1 if left < right else None)

    def test_the_greatest_of_a_body(self):
        defs = definitions_in(TREE)
        self.told(height(defs, ("tree", NOUGHT)), 1)
        self.told(height(defs, ("tree", wide(4))), 5)
        self.told(height(defs, ("tree", left_comb(6))), 7)
        self.told(height(defs, ("tree", ("f", left_comb(3), left_comb(5)))), 7)
        self.told(height(defs, ("tree", ("f", NOUGHT, ("s", NOUGHT)))), None)
        self.told(height(defs, ("tree", ("f", ("s", NOUGHT), NOUGHT))), None)

    def test_the_least_of_the_rules(self):
        self.told(height(definitions_in("p x0 if q x0\nq x0 if r x0\nr x0\np x0 if r x0"), ("p", NOUGHT)), 2)
        self.told(height(definitions_in("p x0 if q x0\nq x0\np 0"), ("p", NOUGHT)), 1)
        self.told(height(definitions_in("p x0 if q x0\nq x0\np 0"), ("p", ("s", NOUGHT))), 2)

    def test_one_atom_thrice_in_a_body(self):
        defs = definitions_in("nat 0\nnat s(x0) if nat x0, nat x0, nat x0")
        self.told(height(defs, ("nat", steps(5))), 6)
        self.told(height(definitions_in("p x0 if q x0, q x0"), ("p", NOUGHT)), None)

    def test_no_such_word_and_other_numbers_of_terms(self):
        self.told(height(ALL, ("none", NOUGHT)), None)
        self.told(height(ALL, ("nat", NOUGHT, NOUGHT)), None)
        self.told(height(ALL, ("less", NOUGHT)), None)
        self.told(height(Definitions(), ("nat", NOUGHT)), None)
        self.told(height(definitions_in("p x0 if q x0"), ("q", NOUGHT)), None)
        self.told(height(definitions_in("nat x0"), ("nat", NOUGHT, NOUGHT)), None)
        self.told(height(definitions_in("less x0 x1"), ("less", NOUGHT)), None)

    def test_round_and_round(self):
        self.told(height(definitions_in("p x0 if p x0"), ("p", NOUGHT)), None)
        self.told(height(definitions_in("p x0 if p x0\np 0"), ("p", NOUGHT)), 1)
        self.told(height(definitions_in("p x0 if q x0\nq x0 if p x0"), ("p", NOUGHT)), None)
        self.told(height(definitions_in("p x0 if q x0\nq x0 if p x0\nq s(x0)"), ("p", steps(1))), 2)
        self.told(height(definitions_in("p x0 if p x0, q x0\nq 0"), ("p", NOUGHT)), None)
        self.told(height(definitions_in("p x0 x1 if p x1 x0\np 0 s(x0)"), ("p", steps(1), NOUGHT)), 2)
        self.told(height(definitions_in("p x0 x1 if p x1 x0\np 0 s(x0)"), ("p", steps(1), steps(1))), None)

    def test_six_words_round(self):
        defs = definitions_in(ROUND)
        for many in [0, 1, 2, 10, 39]:
            self.told(height(defs, ("a", steps(many))), 6 * many + 1)
        self.told(height(defs, ("g", steps(39))), 6 * 38 + 2)
        self.told(height(defs, ("b", NOUGHT)), 6)
        self.told(height(defs, ("a", GREAT_TERMS[1])), None)

    def test_great_terms(self):
        defs = definitions_in("p 0\np s(x0) if p x0\np f(x0,x1) if p x0, p x1")
        for term, wanted in zip(GREAT_TERMS, [40, 21, 21, 14]):
            self.told(height(defs, ("p", term)), wanted)

    def test_all_pairs_of_parts(self):
        # Two TERMs of 40 signs, each pair of whose parts comes to be asked for.
        defs = definitions_in("p s(x0) x1 if p x0 x1\np x0 s(x1) if p x0 x1\np f(x0,x1) x2 if p x0 x2, p x1 x2\n"
                              "p x0 f(x1,x2) if p x0 x1, p x0 x2\np x0 x1 if p x1 x0\np 0 0")
        self.told(height(defs, ("p", GREAT_TERMS[1], GREAT_TERMS[3])), 34)
        self.told(height(defs, ("p", GREAT_TERMS[0], GREAT_TERMS[2])), 60)

    def test_as_worded(self):
        for seed in range(150):
            defs = drawn_definitions(seed)
            for word in defs.words():
                for term in trees(5)[::3]:
                    atom = (word, *[term] * defs.terms(word))
                    self.told(height(defs, atom), all_heights(defs, atom).get(atom))

    def test_by_name_and_again(self):
        self.told(height(atom=("nat", NOUGHT), defs=ALL), 1)
        self.told([height(ALL, ("nat", steps(3))) for _ in range(3)], [4, 4, 4])

    def test_asking_changes_nothing(self):
        defs = definitions_in(NAT)
        height(defs, ("odd", NOUGHT))
        derivation(defs, ("odd", NOUGHT))
        is_derivation(defs, ("odd", NOUGHT), [(("odd", NOUGHT), 0)])
        self.told(defs == definitions_in(NAT), True)
        self.told(defs.words(), ["nat"])


def rows_in(text):
    """ATOM and place, parted by a colon, a row each."""
    return [(atom_in(row.split(":")[0]), int(row.split(":")[1])) for row in text.split("\n")]


class Derivation(Case):
    def test_ordinary(self):
        self.told(derivation(ALL, ("nat", NOUGHT)), [(("nat", NOUGHT), 0)])
        self.told(derivation(ALL, ("nat", steps(2))), rows_in("nat 0:0\nnat s(0):1\nnat s(s(0)):1"))
        self.told(derivation(ALL, ("even", steps(2))), rows_in("even 0:0\nodd s(0):0\neven s(s(0)):1"))
        self.told(derivation(ALL, ("less", steps(1), steps(3))), rows_in("less 0 s(s(0)):0\nless s(0) s(s(s(0))):1"))

    def test_none(self):
        for atom in ["even s(0)", "nat f(0,0)", "less 0 0", "none 0", "nat 0 0", "less 0"]:
            self.told(derivation(ALL, atom_in(atom)), None)
        self.told(derivation(Definitions(), ("nat", NOUGHT)), None)
        self.told(derivation(definitions_in("p x0 if p x0"), ("p", NOUGHT)), None)

    def test_the_first_rule_of_its_height(self):
        self.told(derivation(definitions_in("p x0 if q x0\np 0\np 0\nq 0"), ("p", NOUGHT)), rows_in("p 0:1"))
        self.told(derivation(definitions_in("q x0 if p x0\nq x0\nq 0\np 0"), ("q", NOUGHT)), rows_in("q 0:1"))
        defs = definitions_in("p x0 if q x0\np x0 if u x0\np x0 if r x0\nu 0\nr 0\nq x0 if u x0")
        self.told(derivation(defs, ("p", NOUGHT)), rows_in("u 0:0\np 0:1"))

    def test_of_like_height_rising(self):
        defs = definitions_in("p f(x0,x1) if z x0, b x1, m x1\nz 0\nb x0\nm s(x0)")
        self.told(derivation(defs, atom_in("p f(0,s(0))")), rows_in("b s(0):0\nm s(0):0\nz 0:0\np f(0,s(0)):0"))
        defs = definitions_in(TREE + "\ntree s(x0) if tree x0")
        self.told(derivation(defs, atom_in("tree f(s(0),f(0,0))")),
                  rows_in("tree 0:0\ntree f(0,0):1\ntree s(0):2\ntree f(s(0),f(0,0)):1"))

    def test_by_rising_heights_ahead_of_names(self):
        defs = definitions_in("z x0 if y x0, a x0\na x0 if b x0\nb x0 if c x0\nc x0\ny x0")
        self.told(derivation(defs, ("z", NOUGHT)), rows_in("c 0:0\ny 0:0\nb 0:0\na 0:0\nz 0:0"))

    def test_each_needed_once_and_no_others(self):
        rows = derivation(definitions_in(TREE), ("tree", wide(4)))
        self.told(rows, [(("tree", wide(levels)), min(levels, 1)) for levels in range(5)])
        defs = definitions_in("p x0 if q x0\np x0 if r x0, u x0\nq 0\nr 0\nu x0 if q x0")
        self.told(derivation(defs, ("p", NOUGHT)), rows_in("q 0:0\np 0:0"))

    def test_one_rule_twice(self):
        self.told(derivation(definitions_in("p 0\np s(x0) if p x0\np s(x0) if p x0"), ("p", steps(2))),
                  rows_in("p 0:0\np s(0):1\np s(s(0)):1"))

    def test_six_words_round(self):
        rows = derivation(definitions_in(ROUND), ("a", steps(39)))
        self.assertEqual(len(rows), 6 * 39 + 1)
        self.told(rows[:7], rows_in("a 0:1\ng s(0):0\ne s(0):0\nd s(0):0\nc s(0):0\nb s(0):0\na s(0):0"))
        self.told(rows[-1], (("a", steps(39)), 0))

    def test_as_worded(self):
        held = 0
        for seed in range(150):
            defs = drawn_definitions(seed)
            for word in defs.words():
                for term in trees(5)[::3]:
                    atom = (word, *[term] * defs.terms(word))
                    rows = derivation(defs, atom)
                    self.told(rows, plain_derivation(defs, atom))
                    if rows is not None:
                        held += 1
                        self.told(is_derivation(defs, atom, rows), True)
                        self.told(rows[-1][0], atom)
        self.assertGreater(held, 500)

    def test_own_lists(self):
        self.asked_twice(derivation, ALL, ("nat", steps(2)))

    def test_by_name(self):
        self.told(derivation(atom=("nat", NOUGHT), defs=ALL), [(("nat", NOUGHT), 0)])


class IsDerivation(Case):
    def so(self, defs, atom, rows, wanted):
        self.told(is_derivation(defs, atom, rows), wanted)

    def test_rows_out(self):
        atom = ("nat", steps(3))
        rows = derivation(ALL, atom)
        self.so(ALL, atom, rows, True)
        for out in range(4):
            self.so(ALL, atom, rows[:out] + rows[out + 1:], False)
        self.so(ALL, atom, [], False)

    def test_rows_twice(self):
        atom = ("nat", steps(3))
        rows = derivation(ALL, atom)
        for first in range(4):
            for second in range(5):
                self.so(ALL, atom, rows[:second] + [rows[first]] + rows[second:], False)

    def test_rows_exchanged(self):
        atom = ("nat", steps(3))
        rows = derivation(ALL, atom)
        for first in range(4):
            for second in range(first + 1, 4):
                other = list(rows)
                other[first], other[second] = rows[second], rows[first]
                self.so(ALL, atom, other, False)

    def test_order_is_free_but_for_what_is_needed(self):
        defs = definitions_in("p f(x0,x1) if z x0, b x1, m x1\nz 0\nb x0\nm s(x0)")
        atom = atom_in("p f(0,s(0))")
        rows = derivation(defs, atom)
        self.so(defs, atom, [rows[2], rows[0], rows[1], rows[3]], True)
        self.so(defs, atom, [rows[2], rows[0], rows[3], rows[1]], False)
        self.so(defs, atom, [rows[3], *rows[:3]], False)

    def test_other_rows_may_stand_between(self):
        rows = rows_in("even 0:0\nnat 0:0\nless 0 s(0):0\nnat s(0):1")
        self.so(ALL, ("nat", steps(1)), rows, True)
        self.so(ALL, ("nat", steps(1)), rows_in("nat 0:0\nodd s(0):0\nnat s(0):1"), False)

    def test_another_rule_of_the_word(self):
        for k, wanted in [(0, False), (1, True), (2, False), (-1, False), (-2, False), (10 ** 10, False), (True, False),
                          (False, False), (None, False), ("1", False), ([1], False), ((1,), False)]:
            self.so(ALL, ("nat", steps(1)), [(("nat", NOUGHT), 0), (("nat", steps(1)), k)], wanted)
        self.so(ALL, ("nat", NOUGHT), [(("nat", NOUGHT), False)], False)
        self.so(ALL, ("nat", NOUGHT), [(("nat", NOUGHT), 1)], False)
        self.so(ALL, ("nat", NOUGHT), [(("nat", NOUGHT), -2)], False)

    def test_any_rule_whose_head_it_is(self):
        defs = definitions_in("p x0 if q x0\np 0\nq 0\np x0 if p x0")
        self.so(defs, ("p", NOUGHT), rows_in("q 0:0\np 0:0"), True)
        self.so(defs, ("p", NOUGHT), rows_in("p 0:1"), True)
        self.so(defs, ("p", NOUGHT), rows_in("p 0:0"), False)
        self.so(defs, ("p", NOUGHT), rows_in("p 0:2"), False)
        self.so(defs, ("p", NOUGHT), rows_in("p 0:1\np 0:2"), False)
        self.so(defs, ("p", NOUGHT), rows_in("p 0:1\np 0:1"), False)
        self.so(defs, ("p", NOUGHT), rows_in("q 0:0\np 0:1\np 0:0"), False)

    def test_the_last_is_the_atom(self):
        rows = derivation(ALL, ("nat", steps(2)))
        self.so(ALL, ("nat", steps(1)), rows, False)
        self.so(ALL, ("nat", steps(3)), rows, False)
        self.so(ALL, ("even", NOUGHT), [(("nat", NOUGHT), 0)], False)
        self.so(ALL, ("nat", steps(1)), rows[:2], True)

    def test_atoms_of_other_words_or_numbers_of_terms(self):
        for text in ["none 0:0", "nat 0 0:0", "less s(0):0", "less 0:0"]:
            rows = rows_in(text)
            self.so(ALL, rows[0][0], rows, False)
        self.so(Definitions(), ("nat", NOUGHT), [(("nat", NOUGHT), 0)], False)
        self.so(definitions_in("nat x0"), ("nat", NOUGHT, NOUGHT), [(("nat", NOUGHT, NOUGHT), 0)], False)
        self.so(definitions_in("less x0 x1"), ("less", NOUGHT), [(("less", NOUGHT), 0)], False)

    def test_open_atoms(self):
        defs = definitions_in("p x0\nr x0 x1")
        self.so(defs, ("p", NOUGHT), [(("p", 0), 0), (("p", NOUGHT), 0)], False)
        self.so(defs, ("p", NOUGHT), [(("p", ("s", 3)), 0), (("p", NOUGHT), 0)], False)
        self.so(defs, ("p", NOUGHT), [(("r", NOUGHT, 1), 0), (("p", NOUGHT), 0)], False)
        self.so(defs, ("p", NOUGHT), [(("r", NOUGHT, NOUGHT), 0), (("p", NOUGHT), 0)], True)

    def test_kinds(self):
        atom = ("nat", steps(1))
        rows = derivation(ALL, atom)
        self.so(ALL, atom, tuple(rows), False)
        self.so(ALL, atom, [list(rows[0]), rows[1]], False)
        self.so(ALL, atom, [rows[0], list(rows[1])], False)
        self.so(ALL, atom, [(["nat", NOUGHT], 0), rows[1]], False)
        self.so(ALL, atom, [(("nat", ["0"]), 0), rows[1]], False)
        self.so(ALL, atom, [rows[0], (("nat", ["s", NOUGHT]), 1)], False)
        self.so(ALL, atom, [rows[0], (("nat", ("s", ["0"])), 1)], False)
        self.so(ALL, atom, [rows[0][:1], rows[1]], False)
        self.so(ALL, atom, [rows[0] + (0,), rows[1]], False)
        self.so(ALL, atom, [rows[0], (1, ("nat", steps(1)))], False)
        self.so(ALL, atom, [None, *rows], False)
        self.so(ALL, atom, [(), *rows], False)
        self.so(ALL, atom, [("nat", 0), *rows], False)
        self.so(ALL, atom, [(("if", NOUGHT), 0), *rows], False)
        self.so(ALL, atom, [(("nat", True), 0), *rows], False)

    def test_odd_things(self):
        atom = ("nat", NOUGHT)
        for thing in odd_things():
            self.so(ALL, atom, thing, False)
            self.so(ALL, atom, [thing, (atom, 0)], False)
            self.so(ALL, atom, [(thing, 0), (atom, 0)], False)
            self.so(ALL, atom, [(atom, thing)], False)
            self.so(ALL, atom, [(("nat", thing), 0), (atom, 0)], False)

    def test_great_terms(self):
        defs = definitions_in("p 0\np s(x0) if p x0\np f(x0,x1) if p x0, p x1")
        for term in GREAT_TERMS:
            rows = derivation(defs, ("p", term))
            self.so(defs, ("p", term), rows, True)
            self.so(defs, ("p", term), rows[1:], False)
            self.so(defs, ("p", term), rows[:-2] + rows[-1:], False)

    def test_by_name(self):
        self.told(is_derivation(thing=[(("nat", NOUGHT), 0)], atom=("nat", NOUGHT), defs=ALL), True)

    def test_the_thing_is_not_changed(self):
        rows = derivation(ALL, ("nat", steps(2)))
        kept = list(rows)
        is_derivation(ALL, ("nat", steps(2)), rows)
        self.told(rows, kept)


if __name__ == "__main__":
    unittest.main()

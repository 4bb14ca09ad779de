import unittest

from helper import GREAT_TERMS, NOUGHT, Case, left_comb, odd_things, steps, ten_deep, wide
from ringproofs.terms import is_binding, is_closed, is_term, put, size, variables

ORDINARY = [0, 1, 9, 10, 99, NOUGHT, ("s", 3), ("s", NOUGHT), ("f", 0, 1), ("f", NOUGHT, NOUGHT),
            ("f", NOUGHT, ("s", 1)), ("f", ("f", 0, 0), ("s", ("s", 99)))]
NO_TERMS = [-1, 100, 10 ** 10, True, False, None, "0", "x0", "s", "", [], (), ["0"], ["s", 0], ["f", 0, 1],
            (NOUGHT,), ("0", 0), ("0", NOUGHT), ("s",), ("f",), ("s", 0, 1), ("f", 0), ("f", 0, 1, 2), ("f", (0, 1)),
            ("s", -1), ("s", 100), ("s", True), ("s", False), ("s", None), ("s", "0"), ("s", ["0"]), ("s", ()),
            ("f", 0, True), ("f", False, 0), ("f", -1, 0), ("f", 0, 100), ("f", ["0"], 0), ("f", 0, ["0"]),
            ("g", 0), ("g",), ("x", 0), ("F", 0, 1), ("S", 0), ("", 0), (0,), (0, 1), (0, 0, 0), (0, "s"),
            ("00",), (" 0",), ("s ", 0), (True,), (None, 0), (["s"], 0), (("s",), 0), ((), 0), ("sf", 0)]


class IsTerm(Case):
    def test_ordinary(self):
        for thing in ORDINARY + GREAT_TERMS:
            self.told(is_term(thing), True)

    def test_every_variable(self):
        for variable in range(100):
            self.told(is_term(variable), True)
            self.told(is_term(("s", variable)), True)

    def test_not_so(self):
        for thing in NO_TERMS + odd_things():
            with self.subTest(repr(thing)[:80]):
                self.told(is_term(thing), False)

    def test_spoilt_at_the_inmost(self):
        for spoilt in [["0"], True, -1, 100, (), "0", ("0", 0)]:
            self.told(is_term(steps(38, spoilt)), False)
            self.told(is_term(("f", NOUGHT, ("f", spoilt, NOUGHT))), False)
            self.told(is_term(("f", ("f", NOUGHT, spoilt), NOUGHT)), False)

    def test_by_name(self):
        self.told(is_term(thing=NOUGHT), True)

    def test_a_term_in_a_thing_ten_deep(self):
        for term in GREAT_TERMS:
            self.told(is_term(ten_deep(lambda inner: (inner,), term)), False)
            self.told(is_term(ten_deep(lambda inner: [inner], term)), False)
            self.told(is_term(ten_deep(lambda inner: ("s", inner), term)), True)

    def test_somewhat_beyond(self):
        self.told(is_term(steps(60)), True)
        self.told(size(steps(60)), 61)


class Variables(Case):
    def test_ordinary(self):
        self.told(variables(7), [7])
        self.told(variables(0), [0])
        self.told(variables(NOUGHT), [])
        self.told(variables(("s", ("s", 4))), [4])
        self.told(variables(("f", 1, 1)), [1])
        self.told(variables(("f", 10, ("f", 9, ("s", 2)))), [2, 9, 10])
        self.told(variables(("f", ("f", 99, 0), ("f", 50, 99))), [0, 50, 99])

    def test_great(self):
        for term in GREAT_TERMS:
            self.told(variables(term), [])
        self.told(variables(steps(39, 99)), [99])

    def test_own_lists(self):
        self.asked_twice(variables, ("f", 3, 1))
        self.asked_twice(variables, NOUGHT)

    def test_by_name(self):
        self.told(variables(term=("f", 3, 1)), [1, 3])


class Size(Case):
    def test_ordinary(self):
        for term, many in [(0, 1), (99, 1), (NOUGHT, 1), (("s", 0), 2), (("f", 0, 0), 3), (("f", NOUGHT, ("s", 1)), 4),
                           (("f", ("f", 0, 0), ("s", ("s", 99))), 7), (wide(3), 15), (left_comb(4), 9)]:
            self.told(size(term), many)

    def test_great(self):
        for term in GREAT_TERMS:
            self.told(size(term), 40)

    def test_by_name(self):
        self.told(size(term=("s", 0)), 2)


class IsClosed(Case):
    def test_so(self):
        for term in [NOUGHT, ("s", NOUGHT), ("f", NOUGHT, ("s", NOUGHT)), *GREAT_TERMS]:
            self.told(is_closed(term), True)

    def test_with_variables(self):
        for term in [0, 99, ("s", 0), ("f", NOUGHT, 1), ("f", 1, NOUGHT), ("f", 0, 1), steps(39, 0)]:
            self.told(is_closed(term), False)

    def test_no_terms(self):
        for thing in NO_TERMS + odd_things():
            self.told(is_closed(thing), False)

    def test_by_name(self):
        self.told(is_closed(thing=NOUGHT), True)


class IsBinding(Case):
    def test_so(self):
        for thing in [(), ((0, NOUGHT),), ((99, 99),), ((0, 0),), ((0, 5), (1, ("s", 0))), ((3, NOUGHT), (98, 1), (99, 2)),
                      tuple((variable, NOUGHT) for variable in range(100)), *[((0, term),) for term in GREAT_TERMS]]:
            self.told(is_binding(thing), True)

    def test_variables_that_do_not_rise(self):
        for thing in [((1, NOUGHT), (0, NOUGHT)), ((0, NOUGHT), (0, NOUGHT)), ((0, NOUGHT), (0, 1)),
                      ((0, 1), (2, 1), (1, 1)), ((0, 1), (1, 1), (1, 1)), ((5, 1), (2, 1), (6, 1))]:
            self.told(is_binding(thing), False)

    def test_wrong_kinds(self):
        for thing in [[], [(0, NOUGHT)], ([0, NOUGHT],), ((0,),), ((0, NOUGHT, NOUGHT),), (0, NOUGHT), ((-1, NOUGHT),),
                      ((100, NOUGHT),), ((True, NOUGHT),), ((False, NOUGHT),), ((NOUGHT, NOUGHT),), (("x0", NOUGHT),),
                      ((0, True),), ((0, -1),), ((0, 100),), ((0, ["0"]),), ((0, None),), ((0, ()),), ((),),
                      ((0, NOUGHT), ()), ((0, NOUGHT), (1, ["0"])), ((0, NOUGHT), [1, NOUGHT]), ((0, NOUGHT), 1),
                      ((0, NOUGHT), (1, 0, 0)), ((0, NOUGHT), (True, 0)), ((None, 0), (1, 0)), (("0", 0), (1, 0)),
                      {}, "x0=0", "-", 0, None, True, ("0",), ("s", 0), ("f", 0, 1)]:
            with self.subTest(repr(thing)):
                self.told(is_binding(thing), False)

    def test_odd_things(self):
        for thing in odd_things():
            self.told(is_binding(thing), thing == ())

    def test_by_name(self):
        self.told(is_binding(thing=()), True)


class Put(Case):
    def test_ordinary(self):
        self.told(put(3, ((3, NOUGHT),)), NOUGHT)
        self.told(put(3, ((2, NOUGHT),)), 3)
        self.told(put(NOUGHT, ((0, 1),)), NOUGHT)
        self.told(put(("s", 0), ((0, ("s", 0)),)), ("s", ("s", 0)))
        self.told(put(("f", 0, ("s", 1)), ((0, NOUGHT), (1, ("f", 5, 6)))), ("f", NOUGHT, ("s", ("f", 5, 6))))
        self.told(put(("f", 0, 0), ((0, ("s", 7)),)), ("f", ("s", 7), ("s", 7)))

    def test_all_at_once(self):
        self.told(put(("f", 0, 1), ((0, 1), (1, 0))), ("f", 1, 0))
        self.told(put(("f", 0, ("f", 1, 2)), ((0, 1), (1, 2), (2, 0))), ("f", 1, ("f", 2, 0)))
        self.told(put(0, ((0, ("s", 1)), (1, NOUGHT))), ("s", 1))

    def test_none(self):
        for term in [0, NOUGHT, ("f", 1, ("s", 99)), *GREAT_TERMS]:
            self.told(put(term, ()), term)

    def test_edges(self):
        self.told(put(("f", 0, 99), ((0, 99), (99, 0))), ("f", 99, 0))
        self.told(put(steps(20, 0), ((0, steps(19)),)), steps(39))
        self.told(put(("f", 0, ("f", 0, 1)), ((1, left_comb(5)),)), ("f", 0, ("f", 0, left_comb(5))))

    def test_nothing_is_changed_and_lists_will_do(self):
        pairs = [(0, NOUGHT)]
        self.told(put(("s", 0), pairs), ("s", NOUGHT))
        self.told(pairs, [(0, NOUGHT)])

    def test_by_name(self):
        self.told(put(binding=((0, NOUGHT),), term=("s", 0)), ("s", NOUGHT))


if __name__ == "__main__":
    unittest.main()

"""What the tests share."""

import unittest

from ringproofs.errors import RingError

NOUGHT = ("0",)


def steps(many, term=NOUGHT):
    """The TERM with so many steps around another one."""
    for _ in range(many):
        term = ("s", term)
    return term


def left_comb(forks):
    """The deepest TERM of so many forks: 2 * forks + 1 signs."""
    term = NOUGHT
    for _ in range(forks):
        term = ("f", term, NOUGHT)
    return term


def right_comb(forks):
    term = NOUGHT
    for _ in range(forks):
        term = ("f", NOUGHT, term)
    return term


def wide(levels):
    """The TERM of 2 ** levels noughts, forked as evenly as can be."""
    term = NOUGHT
    for _ in range(levels):
        term = ("f", term, term)
    return term


# 40 signs each: 39 steps; 19 forks to either side and a step; 16 noughts, 15 forks and 9 steps.
GREAT_TERMS = [steps(39), ("s", left_comb(19)), ("s", right_comb(19)), steps(9, wide(4))]


def ten_deep(make, inmost):
    thing = inmost
    for _ in range(10):
        thing = make(thing)
    return thing


def odd_things():
    """Things of every kind that is_.. may be asked of; nothing that the document names is among them."""
    plain = [-1, 100, 10 ** 10, True, False, None, "", " ", "-", "ab c", "?", [], (), [[]], ((),), ([],), [()]]
    inmost = plain + [0, 7, 99, "0", "s", "f", "nat", NOUGHT, ("s", 0), ("nat", 0)]
    deep = []
    for thing in inmost:
        deep.append(ten_deep(lambda inner: [inner], thing))
        deep.append(ten_deep(lambda inner: (inner,), thing))
        deep.append(ten_deep(lambda inner: [inner, (), 3], thing))
        deep.append(ten_deep(lambda inner: (inner, "s", inner) if len(repr(inner)) < 2000 else (inner,), thing))
    pairs = [[left, right] for left in plain for right in plain]
    return plain + deep + pairs + [tuple(pair) for pair in pairs if pair[0] != ()]


class Case(unittest.TestCase):
    def told(self, got, wanted):
        """That this was told, and of these very kinds: 1 is not True here, and no list is a tuple."""
        self.assertEqual(got, wanted)
        self.assertEqual(repr(got), repr(wanted))

    def refused(self, kind, what, call, *handed, **named):
        """That it is refused, by this class alone, with this `what`."""
        with self.assertRaises(RingError) as caught:
            call(*handed, **named)
        self.assertIs(type(caught.exception), kind)
        self.told(caught.exception.what, what)

    def asked_twice(self, call, *handed):
        """That a told list may be changed without changing what is told next."""
        first = call(*handed)
        kept = list(first)
        first.append("more")
        first.reverse()
        second = call(*handed)
        self.told(second, kept)
        self.assertIsNot(first, second)

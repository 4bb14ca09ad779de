"""What the tests share."""

import unittest
from copy import deepcopy

from ringproofs.deftexts import definitions_in
from ringproofs.errors import RingError

NOUGHT = ("0",)
NAT = "nat 0\nnat s(x0) if nat x0"
EVEN = "even 0\neven s(x0) if odd x0\nodd s(x0) if even x0"
LESS = "less 0 s(x0)\nless s(x0) s(x1) if less x0 x1"
# Six words and eight rules that lead round.
ROUND = "\n".join(["a x0 if b x0", "b x0 if c x0", "c x0 if d x0", "d x0 if e x0", "e x0 if g x0", "g s(x0) if a x0",
                   "g x0 if a x0", "a 0"])
NUMBERS = definitions_in("\n".join([NAT, EVEN, LESS]))


def lists_in(told):
    """All lists in what was told, itself too."""
    found = [told] if isinstance(told, list) else []
    if isinstance(told, (list, tuple)):
        found.extend(each for part in told for each in lists_in(part))
    return found


def steps(many, term=NOUGHT):
    """The TERM with so many steps around another one."""
    for _ in range(many):
        term = ("s", term)
    return term


def left_comb(forks):
    """The deepest TERM of so many forks: 2 * forks + 1 signs."""
    term = NOUGHT
    for _ in range(forks):
        term = ("f", term, NOUGHT)
    return term


def right_comb(forks):
    term = NOUGHT
    for _ in range(forks):
        term = ("f", NOUGHT, term)
    return term


def wide(levels):
    """The TERM of 2 ** levels noughts, forked as evenly as can be."""
    term = NOUGHT
    for _ in range(levels):
        term = ("f", term, term)
    return term


# 40 signs each: 39 steps; 19 forks to either side and a step; 16 noughts, 15 forks and 9 steps.
GREAT_TERMS = [steps(39), ("s", left_comb(19)), ("s", right_comb(19)), steps(9, wide(4))]


def ten_deep(make, inmost):
    thing = inmost
    for _ in range(10):
        thing = make(thing)
    return thing


def odd_things():
    """Things of every kind that is_.. may be asked of; nothing that the document names is among them."""
    plain = [-1, 100, 10 ** 10, True, False, None, "", " ", "-", "ab c", "?", [], (), [[]], ((),), ([],), [()]]
    inmost = plain + [0, 7, 99, "0", "s", "f", "nat", NOUGHT, ("s", 0), ("nat", 0)]
    deep = []
    for thing in inmost:
        deep.append(ten_deep(lambda inner: [inner], thing))
        deep.append(ten_deep(lambda inner: (inner,), thing))
        deep.append(ten_deep(lambda inner: [inner, (), 3], thing))
        deep.append(ten_deep(lambda inner: (inner, "s", inner) if len(repr(inner)) < 2000 else (inner,), thing))
    pairs = [[left, right] for left in plain for right in plain]
    return plain + deep + pairs + [tuple(pair) for pair in pairs if pair[0] != ()]


class Case(unittest.TestCase):
    def told(self, got, wanted):
        """That this was told, and of these very kinds: 1 is not True here, and no list is a tuple."""
        self.assertEqual(got, wanted)
        self.assertEqual(repr(got), repr(wanted))

    def refused(self, kind, what, call, *handed, **named):
        """That it is refused, by this class alone, with this `what`."""
        with self.assertRaises(RingError) as caught:
            call(*handed, **named)
        self.assertIs(type(caught.exception), kind)
        self.told(caught.exception.what, what)

    def asked_twice(self, call, *handed, **named):
        """That no two told lists are one, and all may be changed without changing what is told next."""
        first = call(*handed, **named)
        kept = deepcopy(first)
        ahead = lists_in(first)
        self.assertEqual(len(ahead), len({id(each) for each in ahead}))
        for each in ahead:
            each.append("more")
            each.reverse()
        second = call(*handed, **named)
        self.told(second, kept)
        self.assertFalse({id(each) for each in ahead} & {id(each) for each in lists_in(second)})

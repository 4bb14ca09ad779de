"""Closed TERMs by numbers."""

from ringproofs.terms import fold


class Numbered:
    """Gives closed TERMs numbers, alike ones the same.

    An ATOM's key is the ATOM with numbers for its TERMs: a flat tuple, so it
    may be a key of a dict, which the ATOM itself is too deep for.
    """

    def __init__(self):
        self._numbers = {}
        self._shapes = []
        self._terms = []

    def _number(self, term, below):
        shape = (term[0], *below)
        if shape not in self._numbers:
            self._numbers[shape] = len(self._terms)
            self._shapes.append(shape)
            self._terms.append(term)
        return self._numbers[shape]

    def _number_in(self, term):
        return fold(term, lambda part, below: self._number(part, below))

    def key(self, atom):
        """The key of a closed ATOM."""
        return (atom[0], *[self._number_in(term) for term in atom[1:]])

    def atom(self, key):
        """The ATOM whose key it is."""
        return (key[0], *[self._terms[number] for number in key[1:]])

    def shape(self, number):
        """The sign of a TERM, and the numbers of its parts."""
        return self._shapes[number]

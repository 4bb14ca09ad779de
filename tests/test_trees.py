import unittest

from helper import NOUGHT, Case
from ringproofs.terms import is_closed, size
from ringproofs.termtexts import term_text
from ringproofs.trees import trees

OF_EACH_SIZE = [1, 1, 2, 4, 9, 21, 51]


class Trees(Case):
    def test_the_first(self):
        one = ("s", NOUGHT)
        pair = ("f", NOUGHT, NOUGHT)
        self.told(trees(1), [NOUGHT])
        self.told(trees(2), [NOUGHT, one])
        self.told(trees(3), [NOUGHT, one, pair, ("s", one)])
        self.told(trees(4), [NOUGHT, one, pair, ("s", one),
                             ("f", NOUGHT, one), ("f", one, NOUGHT), ("s", pair), ("s", ("s", one))])

    def test_how_many_of_each_size(self):
        for most in range(1, 8):
            found = trees(most)
            for signs in range(1, most + 1):
                self.assertEqual(len([tree for tree in found if size(tree) == signs]), OF_EACH_SIZE[signs - 1])
            self.assertEqual(len(found), sum(OF_EACH_SIZE[:most]))

    def test_closed_unlike_and_in_order(self):
        found = trees(7)
        keys = [(size(tree), term_text(tree)) for tree in found]
        self.assertEqual(keys, sorted(set(keys)))
        self.assertTrue(all(is_closed(tree) for tree in found))

    def test_own_lists(self):
        self.asked_twice(trees, 3)
        self.asked_twice(trees, 7)

    def test_by_name(self):
        self.told(trees(most=2), [NOUGHT, ("s", NOUGHT)])


if __name__ == "__main__":
    unittest.main()

import unittest

from helper import Case
from ringproofs import errors, words

NAMES = ["BadText", "BadRow", "Clash", "NoRule", "BadStep", "BadChart", "Leans", "NotLetBy", "NoWorld",
         "TooLong", "Known", "Unknown", "TooMany", "Leant", "BadDeed"]


class Words(Case):
    def test_constants(self):
        self.told(words.SIZE, 3)
        self.told(words.SHELF, 8)


class Errors(Case):
    def test_bases(self):
        self.assertEqual(errors.RingError.__bases__, (ValueError,))
        for name in NAMES:
            with self.subTest(name):
                self.assertEqual(getattr(errors, name).__bases__, (errors.RingError,))

    def test_no_other_class(self):
        found = [name for name, thing in vars(errors).items() if isinstance(thing, type)]
        self.assertEqual(sorted(found), sorted([*NAMES, "RingError"]))

    def test_made_by_place_and_by_name(self):
        for name in [*NAMES, "RingError"]:
            kind = getattr(errors, name)
            for what in ["a text", "", 0, 7, ("use", 3), ("nat", 0), [1, 2]]:
                with self.subTest(name=name, what=what):
                    for made in [kind(what), kind(what=what)]:
                        self.assertIs(type(made), kind)
                        self.told(made.what, what)

    def test_what_is_needed_and_alone(self):
        for name in [*NAMES, "RingError"]:
            kind = getattr(errors, name)
            self.assertRaises(TypeError, kind)
            self.assertRaises(TypeError, kind, 1, 2)

    def test_caught_by_the_classes_above(self):
        for above in [errors.RingError, ValueError]:
            with self.assertRaises(above):
                raise errors.Clash("nat")


if __name__ == "__main__":
    unittest.main()

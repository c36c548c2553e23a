"""Errors: [0.2]."""

import itertools
import unittest

from betweencoats import errors
from betweencoats.errors import Refused

NAMES = (
    "BadSize BadCount BadTable BadNet Parted BadPegs BadCoat BadJoin BadStone BadPlace Pegged NotPegged "
    "NotAmong NoPeg BadDeed BadFirst BadPrice NotFlat NotStraight BadRank BadWeights TooMany BadMap Base "
    "NothingToUndo NothingToRedo BadText BadWant Null"
).split()


class Errors(unittest.TestCase):

    def test_each_keeps_the_one_thing_it_is_made_from(self):
        for name in ["Refused"] + NAMES:
            error = getattr(errors, name)
            for what in (0, -3, 10 ** 30, (1, 2), ()):
                self.assertEqual(error(what).what, what)
                self.assertEqual(error(what=what).what, what)
            self.assertRaises(TypeError, error)
            self.assertRaises(TypeError, error, 1, 2)

    def test_each_stands_under_refused_and_under_no_other(self):
        self.assertEqual(Refused.__bases__, (ValueError,))
        for name in NAMES:
            error = getattr(errors, name)
            self.assertEqual(error.__bases__, (Refused,))
            self.assertEqual(error.__name__, name)
            self.assertEqual(error.__mro__[:3], (error, Refused, ValueError))

    def test_none_stands_under_another_one(self):
        for name, other in itertools.permutations(NAMES, 2):
            self.assertFalse(issubclass(getattr(errors, name), getattr(errors, other)))

    def test_there_are_no_others(self):
        classes = [name for name, thing in vars(errors).items() if isinstance(thing, type)]
        self.assertEqual(sorted(classes), sorted(NAMES + ["Refused"]))

    def test_each_can_be_raised_and_caught(self):
        for name in NAMES:
            error = getattr(errors, name)
            for caught in (error, Refused, ValueError):
                with self.assertRaises(caught) as held:
                    raise error(5)
                self.assertIs(type(held.exception), error)
                self.assertEqual(held.exception.what, 5)


if __name__ == "__main__":
    unittest.main()

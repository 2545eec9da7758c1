import unittest

from relationladder import errors
from tests.helpers import REFUSALS


class Errors(unittest.TestCase):
    def test_any_refusal_is_a_value_error(self):
        self.assertEqual(errors.LadderError.__bases__, (ValueError,))

    def test_each_stands_straight_under_the_one(self):
        for refusal in REFUSALS:
            self.assertEqual(refusal.__bases__, (errors.LadderError,), refusal.__name__)

    def test_none_stands_under_another_one(self):
        for refusal in REFUSALS:
            for other in REFUSALS:
                self.assertEqual(issubclass(refusal, other), refusal is other)

    def test_all_are_there_under_their_names(self):
        names = "NoNumber NoRing NoPart NoRow NoRung NoRelation NoMap NoTurn NoText NoName TooMany"
        self.assertEqual([refusal.__name__ for refusal in REFUSALS], names.split())

"""0.3 and the interface: the errors."""

import copy
import pickle
import unittest

from cornerbids import errors
from cornerbids.errors import BidError
from tests.things import ODD

FIELDS = {
    "BadRule": "part", "NoBids": None, "NoOrder": None, "NoLot": None, "NoWishes": None, "NoPerson": None,
    "NoBent": None, "NoNumber": None, "NoSchedule": None, "NoPlay": None, "NoTurn": None, "BadPlan": "turn",
    "NotPlain": None, "OtherPeople": None, "NoStretches": None, "NoPeople": None, "NoTable": None, "TooMany": "most",
    "BadText": "at", "NoWord": None, "NoName": "name", "NoneLed": None, "NothingDone": None, "NoChoices": None,
    "NoLog": None, "NoMany": None, "NoRules": None, "NoWeight": None,
}


class TestErrors(unittest.TestCase):
    def test_bid_error_is_a_value_error(self):
        self.assertEqual(BidError.__bases__, (ValueError,))

    def test_each_derives_directly_from_bid_error(self):
        for name in FIELDS:
            self.assertEqual(getattr(errors, name).__bases__, (BidError,), name)

    def test_they_are_defined_in_errors(self):
        for name in FIELDS:
            self.assertEqual(getattr(errors, name).__module__, "cornerbids.errors")

    def test_they_keep_just_their_fields_whatever_is_passed(self):
        for name, field in FIELDS.items():
            made = getattr(errors, name)
            if field is None:
                self.assertEqual(vars(made()), {}, name)
                self.assertRaises(TypeError, made, 1)
                continue
            self.assertRaises(TypeError, made)
            self.assertRaises(TypeError, made, 1, 2)
            for thing in ODD:
                error = made(thing)
                self.assertIs(getattr(error, field), thing)
                self.assertEqual(list(vars(error)), [field])
                self.assertIsInstance(str(error), str)

    def test_they_can_be_copied(self):
        for name, field in FIELDS.items():
            error = getattr(errors, name)(*([] if field is None else [(1, "a")]))
            for other in (copy.copy(error), copy.deepcopy(error), pickle.loads(pickle.dumps(error))):
                self.assertIs(type(other), type(error))
                self.assertEqual(vars(other), vars(error))
                self.assertEqual(str(other), str(error))


if __name__ == "__main__":
    unittest.main()

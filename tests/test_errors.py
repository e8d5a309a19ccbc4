"""Points 7 and 15: the refusals."""

import unittest

from drowsetree import errors
from helpers import odd_things

WAKE = {
    "NoName": ["found"], "NoNumber": ["found"], "NoWord": ["found"], "NoList": ["found"],
    "NoLink": ["found"], "NoFault": ["found"], "NoTask": ["found"], "NoPlan": ["found"],
    "NoLog": ["found"], "NoMachine": ["found"], "NoLine": ["found"], "Doubled": ["found"],
    "Ring": ["found"], "NoText": ["at"], "TooMany": ["many"],
}
STATE = {
    "NotHeld": ["found"], "Busy": ["found", "at"], "Broken": ["found"], "Slept": ["found"],
    "BrokenOff": ["found", "at"], "Heard": ["many"], "Needed": ["found"], "InUse": ["found"],
    "NotOff": ["found"], "Sleeping": [], "Awake": [], "Ended": [],
}
KEY = {"NoDevice": ["found"]}


def all_errors():
    """Each class's name, the class it stands under, and its fields."""
    told = [(name, errors.WakeError, WAKE[name]) for name in WAKE]
    told += [(name, errors.StateError, STATE[name]) for name in STATE]
    return told + [(name, KeyError, KEY[name]) for name in KEY]


class ErrorsTest(unittest.TestCase):
    def test_the_two_above_stand_under_pythons_own(self):
        self.assertEqual((ValueError,), errors.WakeError.__bases__)
        self.assertEqual((LookupError,), errors.StateError.__bases__)

    def test_the_two_above_tell_their_text(self):
        for text in ("", "some words", "a\nb"):
            self.assertEqual(text, str(errors.WakeError(text)))
            self.assertEqual(text, str(errors.StateError(text)))

    def test_each_stands_straight_under_the_told_class(self):
        for name, above, _ in all_errors():
            found = getattr(errors, name)
            self.assertEqual((above,), found.__bases__, name)
            self.assertEqual(errors.__name__, found.__module__, name)

    def test_there_are_no_others(self):
        classes = [name for name, thing in vars(errors).items() if isinstance(thing, type)]
        told = [name for name, _, _ in all_errors()] + ["WakeError", "StateError"]
        self.assertEqual(sorted(told), sorted(classes))

    def test_by_places_each_holds_the_very_things(self):
        for name, _, fields in all_errors():
            for thing in odd_things():
                things = [thing, ["other"]][:len(fields)]
                found = getattr(errors, name)(*things)
                self.assertEqual(fields, list(vars(found)), name)
                for field, one in zip(fields, things):
                    self.assertIs(one, getattr(found, field), name)

    def test_by_names_each_holds_the_very_things(self):
        for name, _, fields in all_errors():
            for thing in odd_things():
                things = dict(zip(fields, [thing, ["other"]]))
                found = getattr(errors, name)(**things)
                self.assertEqual(fields, list(vars(found)), name)
                for field in fields:
                    self.assertIs(things[field], getattr(found, field), name)

    def test_each_can_be_raised_and_has_words(self):
        for name, above, fields in all_errors():
            with self.assertRaises(above) as caught:
                raise getattr(errors, name)(*[[{}]] * len(fields))
            self.assertNotEqual("", str(caught.exception))

    def test_each_is_made_of_just_its_fields(self):
        for name, _, fields in all_errors():
            made = getattr(errors, name)
            with self.assertRaises(TypeError):
                made(*[1] * (len(fields) + 1))
            if fields:
                with self.assertRaises(TypeError):
                    made()


if __name__ == "__main__":
    unittest.main()

"""The errors, as the interface lists them under stolenvoices/errors.py."""

import unittest

from stolenvoices import errors
from tests.things import NO_TUPLES, tell

ATTRIBUTES = {
    "BadMachine": "place", "BadPlay": "place", "BadState": "place", "BadTrace": "place",
    "BadText": "place", "BadEvent": "event", "BadKey": "key", "BadBoard": "many",
    "Missing": "number",
}


class Errors(unittest.TestCase):

    def test_voice_error_is_a_value_error(self):
        self.assertEqual(errors.VoiceError.__bases__, (ValueError,))

    def test_each_stands_straight_under_voice_error(self):
        for name in [*ATTRIBUTES, "BadQuestion"]:
            if name == "Missing":
                continue
            with self.subTest(name):
                error = getattr(errors, name)
                self.assertEqual(error.__bases__, (errors.VoiceError,))
                self.assertTrue(issubclass(error, ValueError))

    def test_missing_stands_straight_under_lookup_error(self):
        self.assertEqual(errors.Missing.__bases__, (LookupError,))
        self.assertFalse(issubclass(errors.Missing, errors.VoiceError))
        self.assertFalse(issubclass(errors.Missing, ValueError))

    def test_each_keeps_the_very_value(self):
        values = NO_TUPLES + [(), (0,), ("criteria", 1), 1.5, float("nan")]
        for name, attribute in ATTRIBUTES.items():
            for value in values:
                with self.subTest(name=name, value=tell(value)):
                    made = getattr(errors, name)(value)
                    self.assertIs(getattr(made, attribute), value)
                    named = getattr(errors, name)(**{attribute: value})
                    self.assertIs(getattr(named, attribute), value)

    def test_each_takes_one_value(self):
        for name in ATTRIBUTES:
            with self.subTest(name):
                with self.assertRaises(TypeError):
                    getattr(errors, name)()
                with self.assertRaises(TypeError):
                    getattr(errors, name)(0, 1)

    def test_each_is_raised_and_caught(self):
        for name, attribute in ATTRIBUTES.items():
            with self.subTest(name):
                error = getattr(errors, name)
                above = LookupError if name == "Missing" else errors.VoiceError
                with self.assertRaises(above) as caught:
                    raise error(("voices",))
                self.assertEqual(getattr(caught.exception, attribute), ("voices",))

    def test_a_message_can_be_told_whatever_is_kept(self):
        for name in ATTRIBUTES:
            for value in NO_TUPLES + [10 ** 5000]:
                with self.subTest(name=name, value=tell(value)):
                    made = getattr(errors, name)(value)
                    self.assertTrue(str(made))
                    self.assertTrue(repr(made))

    def test_bad_question_is_made_with_a_text(self):
        with self.assertRaises(errors.VoiceError) as caught:
            raise errors.BadQuestion("no way")
        self.assertEqual(str(caught.exception), "no way")


if __name__ == "__main__":
    unittest.main()

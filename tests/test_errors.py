import unittest

from stamprules import errors

FIELDS = {
    "BadStamp": ("given",),
    "BadEntry": ("entry",),
    "BadAnswer": ("entry", "answer"),
    "BadSetting": ("given",),
    "BadStep": ("index",),
    "Finished": ("stamp",),
    "MustWait": ("stamp", "holders"),
    "TooLate": ("entry",),
    "BrokenOff": ("stamp",),
}


class Errors(unittest.TestCase):
    def test_base_is_a_value_error(self):
        self.assertEqual(errors.StampError.__bases__, (ValueError,))

    def test_all_stand_directly_under_the_base(self):
        for name in FIELDS:
            with self.subTest(name):
                self.assertEqual(getattr(errors, name).__bases__, (errors.StampError,))

    def test_fields_by_position_and_by_name(self):
        values = {"given": "?", "entry": "read late", "answer": "open", "index": 3,
                  "stamp": 10 ** 30, "holders": (2, 3)}
        for name, fields in FIELDS.items():
            passed = {field: values[field] for field in fields}
            made = [getattr(errors, name)(*passed.values()), getattr(errors, name)(**passed)]
            for error in made:
                with self.subTest(name):
                    self.assertEqual({field: getattr(error, field) for field in fields}, passed)

    def test_any_given_value_can_be_carried_and_shown(self):
        for given in (10 ** 6000, None, [], "\n"):
            for error in (errors.BadStamp(given), errors.BadSetting(given),
                          errors.BadEntry(given), errors.BadAnswer("read late", given)):
                self.assertIsInstance(str(error), str)


if __name__ == "__main__":
    unittest.main()

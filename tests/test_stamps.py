import operator
import unittest

from stamprules import errors
from stamprules.stamps import Stamp, place

MOST = 10 ** 30
NUMBERS = [0, 1, 2, 41, 42, 43, 123456789012345678901234567890, 123456789012345678901234567891,
           MOST - 1, MOST]
SIGNS = [operator.lt, operator.le, operator.eq, operator.ne, operator.gt, operator.ge]


class Stamps(unittest.TestCase):
    def test_field(self):
        for number in NUMBERS:
            self.assertEqual(Stamp(number).number, number)
        self.assertEqual(Stamp(number=7).number, 7)

    def test_all_comparisons_of_all_pairs(self):
        for left in NUMBERS:
            for right in NUMBERS:
                for sign in SIGNS:
                    with self.subTest(f"{sign.__name__} {left} {right}"):
                        result = sign(Stamp(left), Stamp(right))
                        self.assertIs(result, sign(left, right))

    def test_a_stamp_and_itself(self):
        stamp = Stamp(5)
        self.assertEqual([sign(stamp, stamp) for sign in SIGNS], [False, True, True, False, False, True])

    def test_a_stamp_is_no_number(self):
        self.assertIs(Stamp(5) == 5, False)
        self.assertIs(Stamp(5) != 5, True)
        for sign in (operator.lt, operator.le, operator.gt, operator.ge):
            with self.assertRaises(TypeError):
                sign(Stamp(5), 5)

    def test_refused(self):
        for given in (-1, -(10 ** 40), MOST + 1, 10 ** 40, 10 ** 6000, True, False, "1", "", None, [1], (1,), b"1"):
            with self.subTest(str(given)[:9] if not isinstance(given, int) else given.bit_length()):
                with self.assertRaises(errors.BadStamp) as caught:
                    Stamp(given)
                self.assertIs(caught.exception.given, given)

    def test_the_error_is_of_its_own_kind(self):
        with self.assertRaises(errors.BadStamp) as caught:
            Stamp(-1)
        self.assertIsInstance(caught.exception, errors.StampError)
        self.assertIsInstance(caught.exception, ValueError)
        others = (errors.BadEntry, errors.BadAnswer, errors.BadSetting, errors.BadStep,
                  errors.Finished, errors.MustWait, errors.TooLate, errors.BrokenOff)
        self.assertNotIsInstance(caught.exception, others)


class Places(unittest.TestCase):
    def check(self, asker, last, holder, expected):
        given = None if holder is None else Stamp(holder)
        with self.subTest(f"{asker} {last} {holder}"):
            self.assertEqual(place(Stamp(asker), Stamp(last), given), expected)

    def test_without_a_holder(self):
        self.check(2, 1, None, "free")
        self.check(1, 2, None, "late")

    def test_with_a_holder(self):
        self.check(2, 1, 2, "own")
        self.check(2, 1, 3, "below")
        self.check(3, 1, 2, "above")
        self.check(1, 2, 3, "under")

    def test_far_apart(self):
        self.check(700, 3, None, "free")
        self.check(3, 700, None, "late")
        self.check(40, 3, 40, "own")
        self.check(40, 3, 700, "below")
        self.check(700, 3, 40, "above")
        self.check(3, 40, 700, "under")

    def test_first_version(self):
        self.check(1, 0, None, "free")
        self.check(1, 0, 1, "own")
        self.check(1, 0, 2, "below")
        self.check(2, 0, 1, "above")

    def test_thirty_digits_one_apart(self):
        for low in (123456789012345678901234567890, MOST - 2):
            middle, high = low + 1, low + 2
            self.check(middle, low, None, "free")
            self.check(low, middle, None, "late")
            self.check(middle, low, middle, "own")
            self.check(middle, low, high, "below")
            self.check(high, low, middle, "above")
            self.check(low, middle, high, "under")

    def test_own_goes_by_the_number(self):
        self.assertEqual(place(Stamp(MOST), Stamp(0), Stamp(10 ** 30)), "own")


if __name__ == "__main__":
    unittest.main()

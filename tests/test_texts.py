import unittest

from stamprules.errors import BadStep
from stamprules.runs import play, steps_of
from tests.helpers import book_of

# The ways of point 12, and the entry that the last step of each one meets.
WAYS = {
    "w2 c2 r1": "read late",
    "w2 c2 w3 r1": "read under",
    "w2 r1": "read below",
    "w1 r2": "read above",
    "w2 c2 w1": "write late",
    "w2 c2 w3 w1": "write under",
    "w2 w1": "write below",
    "w1 w2": "write above",
    "r2 w1": "write free passed",
    "r2 w1 w1": "write own passed",
    "w1 r2 w1": "write own passed",
    "r2 w2 c2 w1": "write late passed",
    "r2 w2 c2 w3 w1": "write under passed",
    "r2 w2 w1": "write below passed",
    "w1 r3 w2": "write above passed",
    "r3 w1 w2": "write above passed",
}
LETTERS = {"read": "r", "write": "w", "commit": "c", "abort": "a"}


class Texts(unittest.TestCase):
    def test_empty(self):
        self.assertEqual(steps_of(""), [])
        self.assertEqual(steps_of("", "y"), [])

    def test_four_letters(self):
        self.assertEqual(steps_of("w2 r1 c2 a1"),
                         [("write", 2, "x"), ("read", 1, "x"), ("commit", 2), ("abort", 1)])

    def test_another_item(self):
        self.assertEqual(steps_of("w2 r1", "y7"), [("write", 2, "y7"), ("read", 1, "y7")])
        self.assertEqual(steps_of("c1 w3", item="abc"), [("commit", 1), ("write", 3, "abc")])

    def test_texts_of_the_document(self):
        deep = "w2 c2 w3 c3 w4 c4 w5 c5 w6 r1"
        for text in [*WAYS, "w2 c2 w3 w1 a3 r1 c1", "w3 r3", "w1 r4", deep]:
            run = steps_of(text)
            self.assertEqual(" ".join([f"{LETTERS[step[0]]}{step[1]}" for step in run]), text)
            self.assertTrue(all(step[2:] in ((), ("x",)) for step in run))

    def test_ways_meet_their_entries(self):
        book = book_of({"read below": "last", "read above": "last", "write own passed": "put",
                        "write free passed": "put"})
        for text, entry in WAYS.items():
            with self.subTest(text):
                self.assertEqual(play(book, steps_of(text))[-1][1], (entry,))

    def test_many_digits(self):
        for number in (10, 100, 9876543210, 123456789012345678901234567890, 10 ** 30 - 1, 10 ** 30):
            self.assertEqual(steps_of(f"c3 w{number}"), [("commit", 3), ("write", number, "x")])
            self.assertEqual(steps_of(f"a{number}"), [("abort", number)])

    def test_wrong_words(self):
        wrong = ["r", "1", "12", "rr1", "x1", "R1", "W2", "C1", "A1", "r-1", "r+1", "r01", "w00", "c0", "r1.", ".r1",
                 "r1_0", "r1r", "r 1", f"w{10 ** 30 + 1}", f"w{10 ** 31}", "w" + "9" * 31, "w" + "9" * 5000,
                 "w\u0663", "w\u00b2", "w\uff11", "r1\n", "\nr1", "r\n1", "r1\t", "\tr1", "r1\tw2", "r1\nw2",
                 "read1", "|", "wr1", "r1,"]
        for word in wrong:
            for ahead in ("", "w2 ", "w2 c2 a3 "):
                with self.subTest(ahead + word[:9]):
                    with self.assertRaises(BadStep) as caught:
                        steps_of(ahead + word + " c1")
                    self.assertEqual(caught.exception.index, ahead.count(" "))

    def test_empty_words(self):
        for text, index in ((" ", 0), ("  ", 0), (" r1", 0), ("r1 ", 1), ("r1  w2", 1), ("r1 w2  c1", 2),
                            ("r1 w2 ", 2)):
            with self.subTest(text):
                with self.assertRaises(BadStep) as caught:
                    steps_of(text)
                self.assertEqual(caught.exception.index, index)

    def test_first_wrong_word_counts(self):
        with self.assertRaises(BadStep) as caught:
            steps_of("r1 q1 w0 c")
        self.assertEqual(caught.exception.index, 1)


if __name__ == "__main__":
    unittest.main()

import unittest

from stamprules.runs import fault, play, steps_of
from tests.helpers import book_of

PUTS = {"write free passed": "put", "write own passed": "put"}
SKIPS = {"write late": "skip", "write late passed": "skip", "write below": "skip", "write above": "skip",
         "write under": "skip"}


class Faults(unittest.TestCase):
    def check(self, expected, text, answers=None, ends="now", keep=1):
        run = steps_of(text) if isinstance(text, str) else text
        before = list(run)
        with self.subTest(f"{text} {ends} {keep}"):
            found = fault(book_of(answers, ends, keep), run)
            self.assertEqual(found, expected)
            self.assertIn(found.__class__, (int, None.__class__))
            self.assertEqual(run, before)

    def test_serial_runs(self):
        for text in ("", "r1", "w1", "c1", "a1", "w1 c1 r2 c2", "r1 w1 r1 w1 c1 r2 w2 c2 r3", "w2 c2 r1 c1",
                     "w1 r1 w1 r1 a1 r2 c2", "w2 w1 c1 c2"):
            self.check(None, text)

    def test_a_read_of_a_later_version(self):
        self.check(4, "w2 c2 r1 c1", {"read late": "last"})
        self.check(None, "w2 c2 r1 c1", {"read late": "old"}, keep=2)
        self.check(None, "w2 c2 r1 c1", {"read late": "old"}, keep=1)
        self.check(5, "w2 c2 w3 r1 c1", {"read under": "last"})
        self.check(6, "w1 c1 w3 c3 r2 c2", {"read late": "last"})
        self.check(None, "w1 c1 w3 c3 r2 c2", {"read late": "old"}, keep=2)

    def test_only_what_is_committed_counts(self):
        self.check(None, "w2 c2 r1", {"read late": "last"})
        self.check(None, "w2 c2 r1 a1", {"read late": "last"})
        self.check(None, "w2 r1 a1 c2", {"read below": "open"})
        self.check(None, "w2 c2 r1 r3 a1 c3", {"read late": "last"})

    def test_open_values(self):
        self.check(3, "w2 r1 c1", {"read below": "open"})
        self.check(4, "w2 r1 c2 c1", {"read below": "open"})
        self.check(3, "w1 r2 c2", {"read above": "open"})
        self.check(None, "w1 r2 c1 c2", {"read above": "open"})
        self.check(4, "w1 r2 a1 c2", {"read above": "open"})
        self.check(None, "w1 r2 a1 c2", {"read above": "open"}, "after")
        self.check(None, "w1 r2 c2 c1 c2", {"read above": "open"}, "after")
        self.check(5, "w2 r1 c1 c2 c1", {"read below": "open"}, "after")
        self.check(5, "w1 r2 w1 c1 c2", {"read above": "open", **PUTS})

    def test_the_first_one_counts(self):
        # Serial again with the commit of 1, and the fault is still that of step 3.
        self.check(3, "w1 r2 c2 c1", {"read above": "open"})
        self.check(3, "w1 r2 c2 c1 w3 c3 r4 c4", {"read above": "open"})
        self.check(4, "w2 c2 r1 c1 w5 c5 r4 c4 r3 c3", {"read late": "last"})
        self.check(3, "w2 w1 c1 c2", SKIPS)

    def test_skipped_writes_are_performed(self):
        self.check(None, "w2 c2 w1 c1", SKIPS)
        self.check(None, "w2 w1 c2 c1", SKIPS)
        self.check(3, "w2 w1 c1", SKIPS)
        self.check(None, "w2 w1 c1", SKIPS, "after")
        self.check(None, "w2 w1 c1 c2 c1", SKIPS, "after")
        self.check(3, "w1 w2 c2", SKIPS)
        self.check(4, "w1 w2 c1 c2", SKIPS)
        self.check(4, "w1 w2 c1 c2", SKIPS, "after")
        self.check(5, "w2 c2 w1 r1 c1", {**SKIPS, "read late": "last"})
        self.check(5, "w2 c2 w1 r1 c1", {**SKIPS, "read late": "old"}, keep=2)
        self.check(5, "w2 w1 r1 c2 c1", {**SKIPS, "read below": "open"}, "after")
        self.check(5, "r2 w2 c2 w1 c1", SKIPS)

    def test_passed_writes(self):
        self.check(4, "r2 w1 c1 c2", PUTS)
        self.check(4, "r2 w1 c2 c1", PUTS)
        self.check(None, "r2 w1 c1 a2", PUTS)
        self.check(None, "r2 w1 c2 c1")
        self.check(5, "w1 r2 w1 c1 c2", {**PUTS, "read above": "last"})
        self.check(5, "r3 w1 w2 c2 c3", {**PUTS, "write above passed": "wound"})

    def test_a_wound_leaves_no_trace(self):
        self.check(None, "w2 w1 c2 c1 r3 c3", {"write below": "wound"})
        self.check(None, "w1 w2 c1 c2 r3 c3", {"write above": "wound"})

    def test_several_items(self):
        run = [("write", 1, "x"), ("write", 2, "y"), ("commit", 1), ("commit", 2), ("read", 3, "x"), ("read", 3, "y"),
               ("commit", 3)]
        self.check(None, run)
        # Each one reads what the other one is going to write.
        run = [("read", 1, "x"), ("read", 2, "y"), ("write", 2, "x"), ("write", 1, "y"), ("commit", 1), ("commit", 2)]
        self.check(6, run, PUTS)
        self.check(None, run)
        # The last value of y alone is wrong.
        run = [("write", 3, "x"), ("write", 1, "y"), ("write", 2, "y"), ("write", 2, "z"), ("commit", 3),
               ("commit", 2), ("commit", 1)]
        self.check(6, run, SKIPS)
        run = [("write", 2, "y"), ("write", 2, "x"), ("commit", 2), ("read", 1, "x"), ("write", 1, "y"), ("commit", 1)]
        self.check(6, run, {**SKIPS, "read late": "last"})
        self.check(None, run, {**SKIPS, "read late": "old"}, keep=2)

    def test_great_stamps(self):
        most, less = 10 ** 30, 10 ** 30 - 1
        self.check(4, f"w{most} c{most} r{less} c{less}", {"read late": "last"})
        self.check(None, f"w{less} c{less} r{most} c{most}")

    def test_long_runs(self):
        run = []
        for stamp in range(1, 134):
            run += [("read", stamp, "x"), ("write", stamp, "x"), ("commit", stamp)]
        self.check(None, run)
        late = [("read", 3, "y"), ("write", 2, "y"), ("commit", 2), ("commit", 3)]
        shifted = [(step[0], step[1] + 5, *step[2:]) for step in run]
        self.check(len(run) + 4, shifted + late, PUTS)
        self.assertEqual(len(play(book_of(), run)), len(run))


if __name__ == "__main__":
    unittest.main()

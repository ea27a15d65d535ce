"""play, fault and what the questions look for, on many random books and runs, against the model."""

import random
import unittest

from stamprules.books import Book
from stamprules.runs import fault, play
from tests import model
from tests.helpers import contents, random_book, random_run

MOST = 10 ** 30


class AgainstTheModel(unittest.TestCase):
    def compare(self, book, run):
        kept, before = list(run), contents(book)
        self.assertEqual(play(book, run), model.outcomes(book, run))
        self.assertEqual(fault(book, run), model.fault(book, run))
        self.assertEqual(run, kept)
        self.assertEqual(contents(book), before)

    def test_short_runs(self):
        rng = random.Random(71)
        for _ in range(2500):
            self.compare(random_book(rng), random_run(rng, rng.randint(0, 10), (1, 2, 3), "xy"[:rng.randint(1, 2)]))

    def test_longer_runs(self):
        rng = random.Random(72)
        for _ in range(150):
            stamps = rng.choice((range(1, 8), (1, 5, MOST - 1, MOST), range(10 ** 20, 10 ** 20 + 20)))
            items = rng.choice((["x"], ["x", "y"], ["a", "0", "abcdefgh", "12345678"]))
            self.compare(random_book(rng), random_run(rng, 40, list(stamps), items))

    def test_faults_are_found_and_not_found(self):
        rng = random.Random(73)
        found = {fault(random_book(rng), random_run(rng, 12, (1, 2, 3), "x")) for _ in range(600)}
        self.assertIn(None, found)
        self.assertGreater(len(found), 6)

    def test_a_book_that_is_changed(self):
        rng = random.Random(74)
        for _ in range(100):
            book, run = random_book(rng), random_run(rng, 12, (1, 2, 3), "xy")
            self.compare(book, run)
            book &= random_book(rng)
            self.compare(book, run)
            book["write below"] = "wait"
            self.compare(book, run)
            self.compare(book.copy(), run)
            self.compare(Book(contents(book)[0], ends=book.ends, keep=book.keep), run)


if __name__ == "__main__":
    unittest.main()

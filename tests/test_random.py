"""play, fault and what the questions look for, on many random books and runs, against the model."""

import random
import unittest

from stamprules import questions
from stamprules.books import Book
from stamprules.runs import fault, play
from tests import model
from tests.helpers import answered, contents, random_book, random_run

MOST = 10 ** 30


class AgainstTheModel(unittest.TestCase):
    def compare(self, book, run):
        kept, before = list(run), contents(book)
        self.assertEqual(play(book, run), model.outcomes(book, run))
        self.assertEqual(fault(book, run), model.fault(book, run))
        self.assertEqual(run, kept)
        self.assertEqual(contents(book), before)

    def test_short_runs(self):
        rng = random.Random(71)
        for _ in range(2500):
            self.compare(random_book(rng), random_run(rng, rng.randint(0, 10), (1, 2, 3), "xy"[:rng.randint(1, 2)]))

    def test_longer_runs(self):
        rng = random.Random(72)
        for _ in range(150):
            stamps = rng.choice((range(1, 8), (1, 5, MOST - 1, MOST), range(10 ** 20, 10 ** 20 + 20)))
            items = rng.choice((["x"], ["x", "y"], ["a", "0", "abcdefgh", "12345678"]))
            self.compare(random_book(rng), random_run(rng, 40, list(stamps), items))

    def test_faults_are_found_and_not_found(self):
        rng = random.Random(73)
        found = {fault(random_book(rng), random_run(rng, 12, (1, 2, 3), "x")) for _ in range(600)}
        self.assertIn(None, found)
        self.assertGreater(len(found), 6)

    def test_what_the_questions_look_for(self):
        rng = random.Random(75)
        seen = []
        for _ in range(1500):
            book = random_book(rng)
            run = random_run(rng, rng.randint(0, 14), (1, 2, 3, 4), "xy"[:rng.randint(1, 2)])
            expected = (model.has_dirty_read(book, run), model.has_cascade(book, run),
                        model.falls_of_eldest(book, run) > 0)
            self.assertEqual((questions.has_dirty_read(book, run), questions.has_cascade(book, run),
                              questions.has_fall_of_eldest(book, run)), expected)
            seen.append(expected)
        for at in range(3):
            self.assertGreater(sum(expected[at] for expected in seen), 20)

    def test_rings(self):
        # Books in which many wait, and runs in which few end.
        rng = random.Random(76)
        found = 0
        for number in range(4000):
            book = (answered("wait", "wound"), answered("open", "skip", "put", "wait", ends="after"))[number % 2]
            run = random_run(rng, rng.randint(4, 16), (1, 2, 3), "xyz"[:rng.randint(2, 3)])
            run = [step for step in run if len(step) == 3 or step[0] == "commit" or rng.random() < 0.2]
            self.assertIs(questions.has_ring(book, run), model.has_ring(book, run))
            found += model.has_ring(book, run)
        self.assertGreater(found, 20)

    def test_a_ring_that_is_broken(self):
        book = Book({"read below": "wait", "read above": "wait", "write below": "wound"})
        run = [("write", 3, "x"), ("write", 1, "y"), ("read", 1, "x"), ("read", 3, "y")]
        self.assertIs(questions.has_ring(book, run), True)
        self.assertIs(questions.has_ring(book, [*run, ("read", 2, "z")]), True)
        for step in (("write", 2, "x"), ("abort", 1), ("abort", 3), ("commit", 1), ("read", 1, "z")):
            self.assertIs(questions.has_ring(book, [*run, step]), False)

    def test_a_book_that_is_changed(self):
        rng = random.Random(74)
        for _ in range(100):
            book, run = random_book(rng), random_run(rng, 12, (1, 2, 3), "xy")
            self.compare(book, run)
            book &= random_book(rng)
            self.compare(book, run)
            book["write below"] = "wait"
            self.compare(book, run)
            self.compare(book.copy(), run)
            self.compare(Book(contents(book)[0], ends=book.ends, keep=book.keep), run)


if __name__ == "__main__":
    unittest.main()

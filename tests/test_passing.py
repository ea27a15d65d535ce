"""`run in book`, `book <= other` and `book < other`."""

import random
import unittest

from stamprules.books import ENTRIES, Book, answers_at
from stamprules.errors import BadStep
from stamprules.runs import steps_of
from tests import model
from tests.helpers import answered, contents, random_book, random_run
from tests.test_steps import GOOD, WRONG


class LetBy(unittest.TestCase):
    def check(self, expected, book, text):
        run = steps_of(text) if isinstance(text, str) else text
        kept, before = list(run), contents(book)
        with self.subTest(text):
            self.assertIs(run in book, expected)
            self.assertIs(run not in book, not expected)
            self.assertEqual(run, kept)
            self.assertEqual(contents(book), before)

    def test_granted_requests_and_commits(self):
        for text in ("", "r1", "w1", "c1", "r1 w1 r1 c1", "w1 c1 r2 w2 c2 r3", "w1 w1 w1", "r3 r1 r2"):
            self.check(True, Book(), text)
        self.check(True, Book({"read late": "last"}), "w2 c2 r1 c1")
        self.check(True, Book({"read below": "open"}), "w2 r1 c1 c2")
        self.check(True, Book({"write below": "skip", "write late": "skip"}), "w2 w1 c2 w1 c1")
        self.check(True, Book({"write free passed": "put", "write own passed": "put"}), "r2 w1 w1 c2 c1")
        self.check(True, Book(), [("write", 2, "x"), ("write", 1, "y"), ("commit", 2), ("commit", 1)])

    def test_abort(self):
        self.check(False, Book(), "a1")
        self.check(False, Book(), "w1 r1 a1")
        self.check(False, Book(), "a1 w2 c2")
        self.check(False, Book(), "w2 c2 r1")
        self.check(False, Book({"read late": "old"}), "w2 c2 r1")
        self.check(True, Book({"read late": "old"}, keep=2), "w2 c2 r1")

    def test_void(self):
        self.check(False, Book(), "c1 c1")
        self.check(False, Book(), "w1 c1 r1")
        self.check(False, Book(), "c1 a1")

    def test_wait(self):
        for entry, text in (("read below", "w2 r1"), ("write above", "w1 w2"), ("read under", "w2 c2 w3 r1")):
            self.check(False, Book({entry: "wait"}), text)
        book = Book({"read above": "open"}, ends="after")
        self.check(True, book, "w1 r2")
        self.check(False, book, "w1 r2 c2")
        self.check(True, book, "w1 r2 c1 c2")
        self.check(False, book, "w1 r2 c2 c1 c2")

    def test_a_fall_beside_a_granted_request(self):
        book = Book({"write below": "wound", "write above": "wound", "write late": "skip", "write under": "wound"})
        self.check(False, book, "w2 w1")
        self.check(False, book, "w1 w2")
        self.check(False, book, "w2 c2 w3 w1")
        self.check(False, book, "w1 w2 c2")

    def test_the_first_and_the_last_step_count(self):
        granted = [("read", stamp, "x") for stamp in range(1, 30)]
        self.check(True, Book(), granted)
        self.check(False, Book(), [("abort", 31), *granted])
        self.check(False, Book(), [*granted, ("abort", 31)])
        self.check(False, Book(), [*granted, ("write", 28, "x")])

    def test_random_runs(self):
        rng = random.Random(21)
        passed = 0
        for _ in range(3000):
            book = random_book(rng)
            run = random_run(rng, rng.randint(0, 6), (1, 2, 3), "xy"[:rng.randint(1, 2)])
            passed += run in book
            self.assertIs(run in book, model.lets_by(book, run))
        self.assertGreater(passed, 500)

    def test_bad_steps(self):
        for number, part in enumerate(WRONG):
            for ahead in range(len(GOOD) + 1):
                with self.subTest(f"part {number} behind {ahead}"):
                    with self.assertRaises(BadStep) as caught:
                        GOOD[:ahead] + [part] + GOOD + [None] in Book()
                    self.assertEqual(caught.exception.index, ahead)

    def test_a_bad_step_behind_one_that_is_not_let_by(self):
        with self.assertRaises(BadStep) as caught:
            [("abort", 1), ("commit", 2), ("commit", 0)] in Book()
        self.assertEqual(caught.exception.index, 2)


class Orders(unittest.TestCase):
    def equal(self, one, two):
        """Two books that let the same runs by."""
        self.assertIs(one <= two, True)
        self.assertIs(two <= one, True)
        self.assertIs(one < two, False)
        self.assertIs(two < one, False)

    def below(self, one, two):
        """The second book lets by all that the first one does, and more."""
        self.assertIs(one <= two, True)
        self.assertIs(two <= one, False)
        self.assertIs(one < two, True)
        self.assertIs(two < one, False)

    def apart(self, one, two):
        """Each book lets something by that the other one does not."""
        self.assertEqual([one <= two, two <= one, one < two, two < one], [False] * 4)

    def test_a_book_and_itself(self):
        rng = random.Random(22)
        for _ in range(20):
            book = random_book(rng)
            self.equal(book, book)
            self.equal(book, book.copy())

    def test_one_answer_more_is_granted(self):
        for entry in ENTRIES:
            if entry in ("write own passed", "write above passed"):
                continue
            for answer in answers_at(entry):
                with self.subTest(f"{entry}: {answer}"):
                    one, two = Book(keep=2), Book({entry: answer}, keep=2)
                    if answer in ("abort", "wait", "wound"):
                        self.equal(one, two)
                    else:
                        self.below(one, two)

    def test_answers_that_no_run_meets(self):
        self.equal(Book(), Book({"write own passed": "put", "write above passed": "skip"}))
        self.equal(Book({"read above": "wait"}), Book({"read above": "wait", "write own passed": "put"}))
        self.below(Book({"read above": "last"}), Book({"read above": "last", "write own passed": "put"}))
        self.below(Book({"write free passed": "put"}), Book({"write free passed": "put", "write own passed": "put"}))
        self.below(Book({"write free passed": "put"}), Book({"write free passed": "put", "write above passed": "skip"}))

    def test_answers_that_are_granted_alike(self):
        self.equal(Book({"read below": "last"}), Book({"read below": "open"}))
        self.equal(Book({"read under": "last"}), Book({"read under": "open"}, keep=3))
        self.equal(Book({"read late": "old"}), Book())
        self.below(Book({"read late": "old"}, keep=2), Book({"read late": "last"}, keep=2))
        self.apart(Book({"read below": "last"}), Book({"read above": "last"}))

    def test_only_ends(self):
        self.equal(Book(), Book(ends="after"))
        self.equal(Book({"read above": "last", "write under": "skip"}, ends="now"),
                   Book({"read above": "last", "write under": "skip"}, ends="after"))
        for entry in ("read under", "read below", "read above"):
            self.below(Book({entry: "open"}, ends="after"), Book({entry: "open"}, ends="now"))
            self.below(Book({entry: "open"}, ends="after"), Book({entry: "last"}, ends="after"))
        for entry in ("write below", "write above", "write below passed"):
            self.below(Book({entry: "skip"}, ends="after"), Book({entry: "skip"}, ends="now"))
        self.equal(Book({"write above passed": "skip"}, ends="after"), Book({"write above passed": "skip"}))
        for entry in ("read above", "write free passed"):
            answers = {entry: {"read above": "last", "write free passed": "put"}[entry], "write above passed": "skip"}
            self.below(Book(answers, ends="after"), Book(answers))

    def test_only_keep(self):
        for answers in ({}, {"read late": "last", "read under": "open"}, {"write late": "skip"}):
            for keep in (2, 3, 20):
                self.equal(Book(answers), Book(answers, keep=keep))
        for entry in ("read late", "read under"):
            for low, high in ((1, 2), (2, 3), (3, 20), (19, 20), (1, 20)):
                with self.subTest(f"{entry} {low} {high}"):
                    self.below(Book({entry: "old"}, keep=low), Book({entry: "old"}, keep=high))
            self.below(Book({entry: "old"}, keep=20), Book({entry: "last"}))

    def test_keep_against_ends(self):
        self.apart(Book({"read late": "old", "read below": "open"}, keep=3, ends="after"),
                   Book({"read late": "old", "read below": "open"}, keep=2))

    def test_the_greatest_and_the_least(self):
        grants = answered("last", "put", "skip")
        rng = random.Random(23)
        for _ in range(20):
            book = random_book(rng)
            self.assertTrue(Book() <= book)
            self.assertTrue(book <= grants)
        self.below(Book(), grants)

    def test_random_books_and_runs(self):
        rng = random.Random(24)
        for _ in range(40):
            one, two = random_book(rng), random_book(rng)
            both = one.copy()
            both &= two
            for low, high in ((one, two), (two, one), (both, one)):
                before = contents(low), contents(high)
                self.assertIs(low < high, low <= high and not high <= low)
                if low <= high:
                    for _ in range(100):
                        run = random_run(rng, 5, (1, 2, 3), "x")
                        self.assertTrue(run in high or run not in low)
                self.assertEqual((contents(low), contents(high)), before)

    def test_it_follows_changes(self):
        one, two = Book({"read late": "last"}), Book()
        self.below(two, one)
        two["read late"] = "last"
        self.equal(one, two)
        two["read below"] = "open"
        self.below(one, two)
        two &= Book(ends="after")
        self.assertIs(two <= one, True)

    def test_what_is_no_book(self):
        for other in (None, 1, "now", []):
            with self.assertRaises(TypeError):
                Book() <= other
            with self.assertRaises(TypeError):
                Book() < other


if __name__ == "__main__":
    unittest.main()

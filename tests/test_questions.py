"""The questions that ask for a run: what is shown, how long it is, and when there is none."""

import random
import unittest

from stamprules.books import ENTRIES, Book, answers_at
from stamprules.errors import BadEntry
from stamprules.questions import cascade, dirty, eldest, erring, parting, ring, way
from stamprules.runs import play, steps_of
from tests import lists, model
from tests.helpers import answered, contents, random_book
from tests.test_books import NO_ENTRIES

GRANTS = {entry: answers_at(entry)[0] for entry in ENTRIES}
# Serial whatever happens: later ones wait, earlier ones are aborted.
STRICT = {"read above": "wait", "write above": "wait"}


def has_fault(book, run):
    return model.fault(book, run) is not None


def has_fall(book, run):
    return model.falls_of_eldest(book, run) > 0


class Checks(unittest.TestCase):
    def is_run(self, run):
        """The value is a list of steps; playing it would raise BadStep for anything else."""
        self.assertIsInstance(run, list)
        play(Book(), run)

    def answers(self, ask, shows, runs, book):
        """The answer is a shortest one of the runs of the document's list that show it; its length."""
        before = contents(book)
        found = ask(book)
        self.assertEqual(contents(book), before)
        shown = [len(run) for run in runs if shows(book, run)]
        if found is None:
            self.assertEqual(shown, [])
            return None
        self.is_run(found)
        self.assertTrue(shows(book, found))
        self.assertEqual(len(found), min(shown))
        return len(found)

    def rows(self, ask, shows, runs, rows):
        """Per row: the length of the answer or None, the answers of the book, its settings."""
        for length, answers, settings in rows:
            with self.subTest(f"{answers} {settings}"):
                self.assertEqual(self.answers(ask, shows, runs, Book(answers, **settings)), length)


class Ways(Checks):
    LENGTHS = (3, 4, 2, 2, 3, 4, 2, 2, 2, 3, 4, 5, 3, 3)

    def test_lengths(self):
        for book in (Book(GRANTS), Book(GRANTS, ends="after", keep=20),
                     Book({"read above": "open", "write free passed": "put"})):
            for entry, length in zip(ENTRIES, self.LENGTHS):
                with self.subTest(entry):
                    before = contents(book)
                    run = way(book, entry)
                    self.is_run(run)
                    self.assertEqual(len(run), length)
                    self.assertIn(entry, model.outcomes(book, run)[-1][1])
                    self.assertEqual(contents(book), before)

    def test_two_entries_that_may_be_out_of_reach(self):
        for entry in ("write own passed", "write above passed"):
            for reads in answers_at("read above"):
                for writes in answers_at("write free passed"):
                    book = Book({"read above": reads, "write free passed": writes})
                    with self.subTest(f"{entry} {reads} {writes}"):
                        run = way(book, entry)
                        if reads in ("wait", "abort") and writes == "abort":
                            self.assertIsNone(run)
                        else:
                            self.assertEqual(len(run), 3)
                            self.assertEqual(model.outcomes(book, run)[-1][1], (entry,))

    def test_all_other_entries_are_met_in_every_book(self):
        rng = random.Random(51)
        for book in [Book(), *[random_book(rng) for _ in range(50)]]:
            for entry, length in zip(ENTRIES, self.LENGTHS):
                run = way(book, entry)
                if entry not in ("write own passed", "write above passed"):
                    self.assertIsNotNone(run)
                if run is not None:
                    self.assertEqual(len(run), length)
                    self.assertIn(entry, model.outcomes(book, run)[-1][1])

    def test_bad_entries(self):
        for number, entry in enumerate(NO_ENTRIES):
            with self.subTest(f"{number} {entry!r}"):
                with self.assertRaises(BadEntry) as caught:
                    way(Book(), entry)
                self.assertIs(caught.exception.entry, entry)


class Faults(Checks):
    def check(self, rows):
        self.rows(erring, has_fault, lists.FAULTS, rows)

    def test_books_without_one(self):
        self.check([
            (None, {}, {}), (None, {}, {"ends": "after", "keep": 20}), (None, STRICT, {}),
            (None, {"read late": "old", "read under": "old"}, {"keep": 20}),
            (None, {"write late": "skip", "write under": "skip"}, {}),
            (None, {"write below": "skip"}, {"ends": "after"}),
            (None, {"read above": "open"}, {"ends": "after"}),
            (None, {"write below": "wound", "write above": "wound", "write under": "wait"}, {}),
            (None, {"read late": "old"}, {"keep": 1}),
        ])

    def test_books_with_one(self):
        self.check([
            (4, {"read late": "last"}, {}), (5, {"read under": "last"}, {}), (5, {"read under": "open"}, {}),
            (3, {"read below": "open"}, {}), (3, {"read above": "open"}, {}), (4, {"read above": "last"}, {}),
            (4, {"read below": "open"}, {"ends": "after"}),
            (3, {"write below": "skip"}, {}), (3, {"write above": "skip"}, {}),
            (4, {"write above": "skip"}, {"ends": "after"}),
            (4, {"write free passed": "put"}, {}),
            (5, {"write own passed": "put", "read above": "open"}, {"ends": "after"}),
            (5, {"read late": "old", "write late": "skip"}, {"keep": 2}),
            (6, {"read under": "old", "write under": "skip"}, {"keep": 2}),
            (5, {"read below": "last", "write below": "skip"}, {"ends": "after"}),
            (5, {"read late": "old", "write below": "skip"}, {"ends": "after", "keep": 2}),
            (6, {"read under": "old", "write late": "skip"}, {"keep": 2}),
            (6, {"read under": "old", "write below": "skip"}, {"ends": "after", "keep": 2}),
            (7, {"read late": "old", "write under": "skip"}, {"keep": 2}),
            (4, {"write late passed": "skip", "write late": "skip", "read late": "last"}, {}),
            (5, {"write late passed": "skip"}, {}), (6, {"write under passed": "skip"}, {}),
        ])


class Aborts(Checks):
    def test_dirty(self):
        self.rows(dirty, model.has_dirty_read, lists.ABORTS, [
            (None, {}, {}), (None, STRICT, {}), (None, {"read below": "last", "read above": "last"}, {}),
            (None, {"read late": "last", "read under": "old", "write below": "wound"}, {"keep": 5}),
            (3, {"read below": "open"}, {}), (3, {"read above": "open"}, {}), (5, {"read under": "open"}, {}),
            (3, {"read below": "open"}, {"ends": "after"}), (3, {"read above": "open"}, {"ends": "after"}),
            (5, {"read under": "open", "write above": "wound"}, {"ends": "after", "keep": 3}),
            (3, GRANTS | {"read above": "open"}, {}),
        ])

    def test_cascade(self):
        self.rows(cascade, model.has_cascade, lists.ABORTS, [
            (None, {}, {}), (None, {}, {"ends": "after"}), (None, {"read below": "open", "write above": "skip"}, {}),
            (None, {"read below": "last", "write under": "skip", "write late": "skip"}, {"ends": "after"}),
            (None, {"write below": "wound", "write above": "wound"}, {"ends": "after"}),
            (3, {"read below": "open"}, {"ends": "after"}), (3, {"read above": "open"}, {"ends": "after"}),
            (5, {"read under": "open"}, {"ends": "after"}), (3, {"write below": "skip"}, {"ends": "after"}),
            (3, {"write above": "skip"}, {"ends": "after"}), (4, {"write below passed": "skip"}, {"ends": "after"}),
            (None, {"write above passed": "skip"}, {"ends": "after"}),
            (4, {"write above passed": "skip", "read above": "last"}, {"ends": "after"}),
            (4, {"write above passed": "skip", "write free passed": "put"}, {"ends": "after"}),
        ])


class Rings(Checks):
    def check(self, rows):
        self.rows(ring, model.has_ring, lists.RINGS, rows)

    def test_books_without_one(self):
        self.check([
            (None, {}, {}), (None, GRANTS, {}), (None, STRICT, {}),
            (None, {"read below": "wait", "write below": "wait", "read under": "wait"}, {}),
            (None, {"read above": "open", "write above": "skip"}, {"ends": "after"}),
            (None, {"read below": "open", "read above": "open"}, {}),
            (None, {"write above passed": "wait", "write below": "wait"}, {}),
        ])

    def test_books_with_one(self):
        self.check([
            (4, {"read below": "wait", "read above": "wait"}, {}),
            (4, {"read below": "wait", "write above": "wait"}, {}),
            (4, {"write below": "wait", "read above": "wait"}, {}),
            (6, {"read below": "open", "read above": "open"}, {"ends": "after"}),
            (6, {"write below": "skip", "write above": "skip"}, {"ends": "after"}),
            (5, {"read below": "open", "write above": "wait"}, {"ends": "after"}),
            (5, {"write below": "wait", "read above": "open"}, {"ends": "after"}),
            (6, {"read under": "wait", "read above": "wait"}, {}),
            (6, {"write under": "wait", "read above": "wait"}, {}),
            (7, {"read under": "open", "write above": "wait"}, {"ends": "after"}),
            (5, {"write below passed": "wait", "write above": "wait"}, {}),
            (6, {"write below passed": "skip", "write above": "wait"}, {"ends": "after"}),
            (7, {"write under passed": "wait", "read above": "wait"}, {}),
            (6, {"write below passed": "wait", "write above passed": "wait", "read above": "last"}, {}),
            (6, {"write below passed": "wait", "write above passed": "wait", "write free passed": "put"}, {}),
            (8, {"write under passed": "wait", "write above passed": "wait", "read above": "open"}, {"ends": "now"}),
            (7, {"read under": "open", "write above": "wait", "read above": "abort"}, {"ends": "after"}),
        ])

    def test_both_items(self):
        for answers, ends in (({"read below": "wait", "read above": "wait"}, "now"),
                              ({"read below": "open", "read above": "open"}, "after")):
            run = ring(Book(answers, ends=ends))
            self.assertEqual({step[2] for step in run if len(step) == 3}, {"x", "y"})
            last = model.outcomes(Book(answers, ends=ends), run)[-2:]
            self.assertEqual([outcome[0] for outcome in last], ["wait", "wait"])
            self.assertEqual([outcome[2] for outcome in last], [(3,), (1,)])


class Eldest(Checks):
    def check(self, rows):
        self.rows(eldest, has_fall, lists.ELDEST, rows)

    def test_books_without_one(self):
        waits = {**GRANTS, "read below": "wait", "write below": "wait", "write above": "wait"}
        self.check([
            (None, GRANTS, {}), (None, GRANTS, {"keep": 20}), (None, waits, {}),
            (None, {**waits, "write below passed": "wait"}, {"ends": "after"}),
            (None, {**GRANTS, "write above": "abort", "write above passed": "abort", "read above": "abort"}, {}),
        ])

    def test_books_with_one(self):
        self.check([
            (2, {}, {}), (2, {**GRANTS, "read below": "abort"}, {}), (2, {**GRANTS, "write above": "wound"}, {}),
            (3, {**GRANTS, "read late": "abort"}, {}), (3, {**GRANTS, "write late": "abort"}, {}),
            (4, {**GRANTS, "read under": "abort"}, {}), (5, {**GRANTS, "write under passed": "abort"}, {}),
            (3, {**GRANTS, "read below": "open"}, {"ends": "after"}),
            (3, {**GRANTS, "write below": "skip"}, {"ends": "after"}),
            (4, {**GRANTS, "read below": "wait", "write below": "wait"}, {"ends": "after"}),
            (2, {**GRANTS, "write free passed": "abort"}, {}), (3, {**GRANTS, "write own passed": "abort"}, {}),
            (4, {**GRANTS, "write under": "abort"}, {}), (4, {**GRANTS, "write late passed": "abort"}, {}),
            (None, {**GRANTS, "write under": "wound"}, {}),
        ])

    def test_deep_runs(self):
        for keep in range(1, 21):
            late = {**GRANTS, "read late": "old"}
            under = {**GRANTS, "read under": "old"}
            self.check([(2 * keep + 1, late, {"keep": keep}), (2 * keep + 2, under, {"keep": keep}),
                        (2 * keep + 1, late | {"read under": "old"}, {"keep": keep})])
        self.assertEqual(eldest(Book({**GRANTS, "read late": "old"}, keep=20))[-1], ("read", 1, "x"))


class Partings(Checks):
    def check(self, length, one, other):
        def parts(book, run):
            return model.lets_by(book, run) and not model.lets_by(other, run)

        before = contents(other)
        self.assertEqual(self.answers(lambda book: parting(book, other), parts, lists.PARTINGS, one), length)
        self.assertEqual(contents(other), before)

    def test_none(self):
        self.check(None, Book(), Book())
        self.check(None, Book(), Book(GRANTS))
        self.check(None, Book(keep=20), Book(ends="after"))
        self.check(None, Book({"read below": "open"}), Book({"read below": "last"}))
        self.check(None, Book({"write below": "wound"}), Book({"write below": "wait"}))
        self.check(None, Book({"read below": "open"}, ends="after"), Book({"read below": "open"}))
        self.check(None, Book({"write own passed": "put"}), Book())

    def test_one_answer(self):
        for entry, length in zip(ENTRIES, Ways.LENGTHS):
            with self.subTest(entry):
                self.check(length, Book(GRANTS), Book({**GRANTS, entry: "abort"}))
                self.check(None, Book({**GRANTS, entry: "abort"}), Book(GRANTS))

    def test_ends(self):
        for entry, answer, length in (("read below", "open", 3), ("read above", "open", 3), ("read under", "open", 5),
                                      ("write below", "skip", 3), ("write above", "skip", 3),
                                      ("write below passed", "skip", 4)):
            self.check(length, Book({entry: answer}), Book({entry: answer}, ends="after"))
        self.check(4, Book({"write above passed": "skip", "read above": "last"}),
                   Book({"write above passed": "skip", "read above": "last"}, ends="after"))
        self.check(None, Book({"write under": "skip"}), Book({"write under": "skip"}, ends="after"))

    def test_deep_runs(self):
        for keep in range(1, 20):
            for more in {keep + 1, 20}:
                for entry, length in (("read late", 2 * keep + 1), ("read under", 2 * keep + 2)):
                    with self.subTest(f"{entry} {keep} {more}"):
                        one, other = Book({entry: "old"}, keep=more), Book({entry: "old"}, keep=keep)
                        self.check(length, one, other)
                        self.check(None, other, one)
        for entry, length in (("read late", 41), ("read under", 42)):
            self.check(length, Book({entry: "last"}), Book({entry: "old"}, keep=20))


class AllQuestions(Checks):
    QUESTIONS = [(erring, has_fault, lists.FAULTS), (dirty, model.has_dirty_read, lists.ABORTS),
                 (cascade, model.has_cascade, lists.ABORTS), (ring, model.has_ring, lists.RINGS),
                 (eldest, has_fall, lists.ELDEST)]

    def test_random_books(self):
        rng = random.Random(52)
        for number in range(40):
            book = random_book(rng)
            for ask, shows, runs in self.QUESTIONS:
                with self.subTest(f"{number} {ask.__name__}"):
                    self.answers(ask, shows, runs, book)

    def test_random_pairs_for_parting(self):
        rng = random.Random(53)
        for number in range(40):
            one, other = random_book(rng), random_book(rng)
            with self.subTest(number):
                def parts(book, run):
                    return model.lets_by(book, run) and not model.lets_by(other, run)
                length = self.answers(lambda book: parting(book, other), parts, lists.PARTINGS, one)
                self.assertIs(one <= other, length is None)

    def test_asked_again_after_a_change(self):
        book = Book()
        self.assertEqual([ask(book) for ask in (erring, dirty, cascade, ring)], [None] * 4)
        first = eldest(book)
        self.assertEqual(len(first), 2)
        first.clear()
        self.assertEqual(len(eldest(book)), 2)
        book["read above"] = "open"
        book["write below"] = "wait"
        self.assertEqual([len(ask(book)) for ask in (erring, dirty)], [3, 3])
        self.assertEqual([ask(book) for ask in (cascade, ring)], [None, None])
        self.assertEqual(len(way(book, "write own passed")), 3)
        book &= Book({"read above": "open", "write below": "wait"}, ends="after")
        self.assertEqual([len(ask(book)) for ask in (dirty, cascade, ring)], [3, 3, 5])
        self.assertIsNone(erring(book))
        self.assertIsNotNone(parting(book, Book()))
        book["read above"] = "abort"
        self.assertEqual([ask(book) for ask in (erring, dirty, cascade, ring)], [None] * 4)
        self.assertIsNone(parting(book, Book()))
        self.assertIsNone(way(book, "write own passed"))

    def test_short_runs_by_trying_all(self):
        """No run of three steps at all shows what the answer is said to need more steps for."""
        stamps = (1, 2, 3)
        steps = [("commit", s) for s in stamps] + [("abort", s) for s in stamps]
        steps += [(word, s, "x") for word in ("read", "write") for s in stamps]
        runs = [[]]
        for _ in range(3):
            runs += [[*run, step] for run in runs if len(run) == len(runs[-1]) for step in steps]
        rng = random.Random(54)
        for _ in range(4):
            book = random_book(rng)
            for ask, shows, _ in self.QUESTIONS:
                found = ask(book)
                shown = [len(run) for run in runs if shows(book, run)]
                if shown:
                    self.assertEqual(len(found), min(shown))
                else:
                    self.assertTrue(found is None or len(found) > 3)


if __name__ == "__main__":
    unittest.main()

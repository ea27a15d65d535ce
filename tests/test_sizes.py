"""The program at the bounds of point 2; a call that took minutes would show here."""

import random
import unittest

from stamprules.books import ENTRIES, Book, answers_at
from stamprules.desk import Desk, perform
from stamprules.errors import BrokenOff, Finished, MustWait
from stamprules.questions import (
    blame, cascade, dirty, eldest, erring, least_keep, parting, ring, rounds, way, weakest,
)
from stamprules.runs import fault, play
from tests import model
from tests.helpers import LEVELS, answered, random_book, random_run

MOST = 10 ** 30


def kinds():
    """Books of every kind, also those without a run that shows what is asked."""
    for ends in ("now", "after"):
        for keep in (1, 20):
            yield Book(ends=ends, keep=keep)
            for wanted in (("last", "put", "skip"), ("old", "open", "put", "skip"), ("open", "put", "wait"),
                           ("wait", "last"), ("wound", "last", "put"), ("old", "wait", "skip")):
                yield answered(*wanted, ends=ends, keep=keep)


class LongRuns(unittest.TestCase):
    def test_runs_of_400_steps(self):
        rng = random.Random(81)
        names = [f"item{number}" for number in range(200)]
        for book in (Book(), answered("old", "open", "put", "skip", keep=20), answered("open", "wait", ends="after"),
                     random_book(rng)):
            for stamps, items in ((range(1, 201), ["x"]), (range(1, 201), names),
                                  (range(MOST - 3, MOST + 1), ["x", "y"])):
                run = random_run(rng, 400, list(stamps), items)
                self.assertEqual(play(book, run), model.outcomes(book, run))
                found = fault(book, run)
                if found is not None:
                    self.assertFalse(model.is_serial(book, run[:found]))
                    self.assertTrue(model.is_serial(book, run[:found - 1]))
                self.assertIs(run in book, model.lets_by(book, run))

    def test_200_commits(self):
        run = []
        for stamp in range(1, 201):
            run += [("write", stamp, "x"), ("commit", stamp)]
        self.assertIs(run in Book(keep=20), True)
        self.assertIsNone(fault(Book(keep=20), run))

    def test_a_chain_of_bonds(self):
        run = [("write", 1, "x")]
        for stamp in range(2, 200):
            run += [("read", stamp, f"i{stamp - 1}" if stamp > 2 else "x"), ("write", stamp, f"i{stamp}")]
        outcomes = play(answered("open", ends="after"), [*run, ("abort", 1)])
        self.assertEqual(outcomes[-1], ("abort", (), None, tuple(range(1, 200))))


class GreatDesks(unittest.TestCase):
    def test_100_transactions(self):
        rng = random.Random(82)
        for book in (answered("open", "skip", "put", ends="after", keep=20), answered("wait"),
                     answered("wound", "old")):
            desk, other = Desk(book), model.Model(book)
            askers = [desk.begin() for _ in range(100)]
            for number in range(1, 1001):
                asker, item = rng.choice(askers), f"i{rng.randint(1, 30)}"
                step = rng.choice((("read", asker.stamp.number, item), ("write", asker.stamp.number, item)))
                outcome = other.step(step, number)
                try:
                    got = asker.read(item) if step[0] == "read" else asker.write(item, number)
                except (Finished, MustWait, BrokenOff):
                    self.assertIn(outcome[0], ("void", "wait", "abort"))
                else:
                    self.assertEqual(got, outcome[2] if step[0] == "read" else outcome[0] == "put")
            for asker in askers:
                stamp = asker.stamp.number
                self.assertEqual(desk.state_of(stamp), other.ended.get(stamp, "open"))

    def test_100_commits_that_wait(self):
        for end, expected in (("commit", "committed"), ("abort", "aborted")):
            desk = Desk(answered("open", ends="after"))
            askers = [desk.begin() for _ in range(100)]
            for at, asker in enumerate(askers):
                asker.write(f"i{at}", at)
                if at > 0:
                    asker.read(f"i{at - 1}")
            for asker in reversed(askers[1:]):
                with asker:
                    pass
            self.assertEqual(desk.state_of(100), "open")
            if end == "commit":
                askers[0].commit()
            else:
                askers[0].abort()
            self.assertEqual({desk.state_of(stamp) for stamp in range(1, 101)}, {expected})

    def test_perform_100_times(self):
        desk = Desk(Book(keep=20))
        for stamp in range(1, 101):
            self.assertEqual(perform(desk, [("read", "x"), ("write", "x", stamp * 10 ** 28)]),
                             (stamp, [(stamp - 1) * 10 ** 28]))
        self.assertEqual(desk.versions("x"), [(stamp, stamp * 10 ** 28) for stamp in range(81, 101)])


class GreatQuestions(unittest.TestCase):
    def test_books_of_every_kind(self):
        for book in kinds():
            for ask in (erring, dirty, cascade, ring, eldest):
                ask(book)
            for entry in ENTRIES:
                way(book, entry)
            self.assertEqual(len(blame(book)), sum(LEVELS[answer] > LEVELS[book[entry]]
                                                   for entry in ENTRIES for answer in answers_at(entry)))
            for other in kinds():
                self.assertIs(book <= other, parting(book, other) is None)

    def test_20_runs_for_least_keep(self):
        book = answered("old", "put", "skip")
        runs = []
        for count in range(20):
            run = []
            for stamp in range(1, 190):
                run += [("write", 2 * stamp, "x"), ("commit", 2 * stamp)]
            early = 2 * 189 - 2 * min(count, 18) + 1
            runs.append([*run, ("read", early, "x")])
        self.assertEqual(least_keep(book, runs), 19)
        self.assertEqual(least_keep(book, runs[:10]), 10)
        self.assertIsNone(least_keep(book, [*runs[:19], [*runs[0], ("abort", 1)]]))

    def test_20_rounds(self):
        for book in kinds():
            run = list(rounds(book, 20))
            if eldest(book) is None:
                self.assertEqual(run, [])
            else:
                self.assertGreaterEqual(model.falls_of_eldest(book, run), 20)
                self.assertEqual(model.still_open(book, run), set())

    def test_a_frame_of_almost_100_books(self):
        entries = ("read late", "write below", "write above passed", "write late passed")
        frame = {entry: list(answers_at(entry)) for entry in entries}
        for book in kinds():
            for found in weakest(book, frame):
                self.assertIsNone(erring(found))


if __name__ == "__main__":
    unittest.main()

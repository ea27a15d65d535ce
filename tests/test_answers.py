"""Each answer at each entry where it may stand: the outcome of the last step of a shortest run that meets it."""

import unittest

from stamprules.runs import play, steps_of
from tests.helpers import aborted, book_of, read

# Per row: the run, the entry, its answer, the answers elsewhere, the outcome.
READS = [
    ("w2 c2 r1", "read late", "last", {}, read(1, "read late")),
    ("w2 c2 r1", "read late", "abort", {}, aborted("read late", 1)),
    ("w2 c2 w3 r1", "read under", "last", {}, read(1, "read under")),
    ("w2 c2 w3 r1", "read under", "open", {}, read(3, "read under")),
    ("w2 c2 w3 r1", "read under", "wait", {}, ("wait", ("read under",), (3,), ())),
    ("w2 c2 w3 r1", "read under", "abort", {}, aborted("read under", 1)),
    ("w2 r1", "read below", "last", {}, read(0, "read below")),
    ("w2 r1", "read below", "open", {}, read(1, "read below")),
    ("w2 r1", "read below", "wait", {}, ("wait", ("read below",), (2,), ())),
    ("w2 r1", "read below", "abort", {}, aborted("read below", 1)),
    ("w1 r2", "read above", "last", {}, read(0, "read above")),
    ("w1 r2", "read above", "open", {}, read(1, "read above")),
    ("w1 r2", "read above", "wait", {}, ("wait", ("read above",), (1,), ())),
    ("w1 r2", "read above", "abort", {}, aborted("read above", 2)),
]
OLD = [
    ("w2 c2 r1", "read late", 1, aborted("read late", 1)),
    ("w2 c2 r1", "read late", 2, read(0, "read late")),
    ("w2 c2 w3 r1", "read under", 1, aborted("read under", 1)),
    ("w2 c2 w3 r1", "read under", 20, read(0, "read under")),
    ("w1 c1 w3 c3 w5 c5 r4", "read late", 1, aborted("read late", 4)),
    ("w1 c1 w3 c3 w5 c5 r4", "read late", 2, read(3, "read late")),
    ("w1 c1 w3 c3 w5 c5 r4", "read late", 3, read(3, "read late")),
    ("w1 c1 w3 c3 w5 c5 r2", "read late", 2, aborted("read late", 2)),
    ("w1 c1 w3 c3 w5 c5 r2", "read late", 3, read(1, "read late")),
    ("w1 c1 w3 c3 w5 c5 w6 r2", "read under", 2, aborted("read under", 2)),
    ("w1 c1 w3 c3 w5 c5 w6 r2", "read under", 4, read(1, "read under")),
]
WRITES = [
    ("w2 c2 w1", "write late", "skip", {}, ("skip", ("write late",), None, ())),
    ("w2 c2 w1", "write late", "abort", {}, aborted("write late", 1)),
    ("w2 c2 w3 w1", "write under", "skip", {}, ("skip", ("write under",), None, ())),
    ("w2 c2 w3 w1", "write under", "wait", {}, ("wait", ("write under",), (3,), ())),
    ("w2 c2 w3 w1", "write under", "abort", {}, aborted("write under", 1)),
    ("w2 c2 w3 w1", "write under", "wound", {"write late": "skip"},
     ("skip", ("write under", "write late"), None, (3,))),
    ("w2 c2 w3 w1", "write under", "wound", {"write late": "abort"},
     ("abort", ("write under", "write late"), None, (1, 3))),
    ("w2 w1", "write below", "skip", {}, ("skip", ("write below",), None, ())),
    ("w2 w1", "write below", "wait", {}, ("wait", ("write below",), (2,), ())),
    ("w2 w1", "write below", "wound", {}, ("put", ("write below",), None, (2,))),
    ("w2 w1", "write below", "abort", {}, aborted("write below", 1)),
    ("w1 w2", "write above", "skip", {}, ("skip", ("write above",), None, ())),
    ("w1 w2", "write above", "wait", {}, ("wait", ("write above",), (1,), ())),
    ("w1 w2", "write above", "wound", {}, ("put", ("write above",), None, (1,))),
    ("w1 w2", "write above", "abort", {}, aborted("write above", 2)),
]
PASSED = [
    ("r2 w1", "write free passed", "put", {}, ("put", ("write free passed",), None, ())),
    ("r2 w1", "write free passed", "abort", {}, aborted("write free passed", 1)),
    ("w1 r2 w1", "write own passed", "put", {"read above": "last"}, ("put", ("write own passed",), None, ())),
    ("w1 r2 w1", "write own passed", "abort", {"read above": "last"}, aborted("write own passed", 1)),
    ("r2 w1 w1", "write own passed", "put", {"write free passed": "put"},
     ("put", ("write own passed",), None, ())),
    ("r2 w2 c2 w1", "write late passed", "skip", {}, ("skip", ("write late passed",), None, ())),
    ("r2 w2 c2 w1", "write late passed", "abort", {}, aborted("write late passed", 1)),
    ("r2 w2 c2 w3 w1", "write under passed", "skip", {}, ("skip", ("write under passed",), None, ())),
    ("r2 w2 c2 w3 w1", "write under passed", "wait", {}, ("wait", ("write under passed",), (3,), ())),
    ("r2 w2 c2 w3 w1", "write under passed", "abort", {}, aborted("write under passed", 1)),
    ("r2 w2 c2 w3 w1", "write under passed", "wound", {"write late passed": "skip"},
     ("skip", ("write under passed", "write late passed"), None, (3,))),
    ("r2 w2 c2 w3 w1", "write under passed", "wound", {"write late passed": "abort", "write late": "skip"},
     ("abort", ("write under passed", "write late passed"), None, (1, 3))),
    ("r2 w2 w1", "write below passed", "skip", {}, ("skip", ("write below passed",), None, ())),
    ("r2 w2 w1", "write below passed", "wait", {}, ("wait", ("write below passed",), (2,), ())),
    ("r2 w2 w1", "write below passed", "abort", {}, aborted("write below passed", 1)),
    ("r2 w2 w1", "write below passed", "wound", {"write free passed": "put"},
     ("put", ("write below passed", "write free passed"), None, (2,))),
    ("r2 w2 w1", "write below passed", "wound", {"write free passed": "abort"},
     ("abort", ("write below passed", "write free passed"), None, (1, 2))),
    ("w1 r3 w2", "write above passed", "skip", {"read above": "open"}, ("skip", ("write above passed",), None, ())),
    ("w1 r3 w2", "write above passed", "wait", {"read above": "open"}, ("wait", ("write above passed",), (1,), ())),
    ("w1 r3 w2", "write above passed", "abort", {"read above": "open"}, aborted("write above passed", 2)),
    ("w1 r3 w2", "write above passed", "wound", {"read above": "last", "write free passed": "put"},
     ("put", ("write above passed", "write free passed"), None, (1,))),
    ("w1 r3 w2", "write above passed", "wound", {"read above": "last", "write free passed": "abort"},
     ("abort", ("write above passed", "write free passed"), None, (1, 2))),
    ("r3 w1 w2", "write above passed", "wait", {"write free passed": "put"},
     ("wait", ("write above passed",), (1,), ())),
]


class Answers(unittest.TestCase):
    def test_answers_but_old(self):
        for text, entry, answer, elsewhere, expected in READS + WRITES + PASSED:
            for ends in ("now", "after"):
                for keep in (1, 2, 20):
                    with self.subTest(f"{text}, {entry}: {answer}, {elsewhere}, {ends}, {keep}"):
                        book = book_of({**elsewhere, entry: answer}, ends, keep)
                        outcomes = play(book, steps_of(text))
                        self.assertEqual(outcomes[-1], expected)
                        self.assertEqual(len(outcomes), len(text.split()))

    def test_old(self):
        for text, entry, keep, expected in OLD:
            for ends in ("now", "after"):
                with self.subTest(f"{text}, {entry}, {ends}, {keep}"):
                    self.assertEqual(play(book_of({entry: "old"}, ends, keep), steps_of(text))[-1], expected)

    def test_old_with_each_number_of_kept_versions(self):
        writes = " ".join([f"w{stamp} c{stamp}" for stamp in range(2, 44, 2)])
        for keep in range(1, 21):
            for asker in range(1, 43, 2):
                expected = aborted("read late", asker)
                if asker > 42 - 2 * (keep - 1):
                    expected = read(asker - 2, "read late")
                with self.subTest(f"{keep} {asker}"):
                    run = steps_of(f"{writes} r{asker}")
                    self.assertEqual(play(book_of({"read late": "old"}, keep=keep), run)[-1], expected)

    def test_the_answer_is_asked_of_the_entry_that_is_met(self):
        # All other answers differ from abort, so that a wrong entry would show.
        others = {"read late": "last", "read under": "last", "read below": "last", "read above": "last",
                  "write late": "skip", "write under": "skip", "write below": "skip", "write above": "skip",
                  "write free passed": "put", "write own passed": "put", "write late passed": "skip",
                  "write under passed": "skip", "write below passed": "skip", "write above passed": "skip"}
        for text, entry, answer, elsewhere, expected in READS + WRITES + PASSED:
            if answer == "abort":
                with self.subTest(f"{text}, {entry}"):
                    book = book_of({**others, **elsewhere, entry: "abort"})
                    self.assertEqual(play(book, steps_of(text))[-1], expected)


if __name__ == "__main__":
    unittest.main()

"""least_keep, rounds, weakest and blame."""

import itertools
import random
import unittest

from stamprules.books import ENTRIES, Book, answers_at
from stamprules.errors import BadAnswer, BadEntry, BadStep
from stamprules.questions import blame, eldest, erring, least_keep, rounds, weakest
from stamprules.runs import steps_of
from tests import model
from tests.helpers import LEVELS, answered, contents, random_book, random_run
from tests.test_books import NO_ANSWERS, NO_ENTRIES

OLD = {"read late": "old", "read under": "old"}


def commits(count):
    """A text in which this many transactions, beginning with 2, write and commit."""
    return " ".join(f"w{stamp} c{stamp}" for stamp in range(2, count + 2))


class LeastKeep(unittest.TestCase):
    def check(self, expected, book, texts):
        runs = [steps_of(text) if isinstance(text, str) else text for text in texts]
        kept, before = [list(run) for run in runs], contents(book)
        for keep in (book.keep, 1, 2, 20):
            other = Book(contents(book)[0], ends=book.ends, keep=keep)
            self.assertEqual(least_keep(other, runs), expected)
            self.assertEqual(contents(other), (before[0], book.ends, keep))
        self.assertEqual(least_keep(book, runs), expected)
        self.assertEqual(contents(book), before)
        self.assertEqual(runs, kept)

    def test_no_runs(self):
        self.check(1, Book(), [])
        self.check(1, Book(keep=20), [])

    def test_one_is_enough(self):
        self.check(1, Book(), [""])
        self.check(1, Book(OLD), ["w1 c1 r2", "w2", "r1 w1 r1 c1"])
        self.check(1, Book({"read late": "last"}), [f"{commits(5)} r1"])

    def test_each_number(self):
        for count in range(1, 20):
            with self.subTest(count):
                self.check(count + 1, Book(OLD), [f"{commits(count)} r1"])
                self.check(count + 1, Book(OLD), [f"{commits(count)} w30 r1"])
                self.check(count + 1, Book(OLD, ends="after"), ["", f"{commits(count)} r1", f"{commits(1)} r1"])

    def test_twenty_is_enough_and_not_enough(self):
        self.check(20, Book(OLD), [f"{commits(19)} r1"])
        self.check(None, Book(OLD), [f"{commits(20)} r1"])
        self.check(None, Book(OLD), [f"{commits(25)} w40 r1"])
        even = " ".join(f"w{stamp} c{stamp}" for stamp in range(2, 52, 2))
        self.check(20, Book(OLD), [f"{even} r13"])
        self.check(19, Book(OLD), [f"{even} r15"])
        self.check(None, Book(OLD), [f"{even} r11"])

    def test_no_number_helps(self):
        self.check(None, Book(), ["w2 c2 r1"])
        self.check(None, Book({"read late": "old"}), ["w2 c2 w3 r1"])
        self.check(None, Book(OLD), ["a1"])
        self.check(None, Book(OLD), ["w2 c2 r1", "c1 c1"])
        self.check(None, Book(OLD), [f"{commits(25)} r1", "r1"])
        self.check(None, Book({"read above": "open"}, ends="after"), ["w1 r2 c2"])

    def test_several_runs(self):
        texts = [f"{commits(count)} r1" for count in (3, 9, 1, 7)]
        for order in itertools.permutations(texts):
            self.check(10, Book(OLD), order)
        self.check(None, Book(OLD), [*texts, "a1"])
        self.check(None, Book(OLD), ["a1", *texts])

    def test_bad_steps(self):
        with self.assertRaises(BadStep) as caught:
            least_keep(Book(), [[("commit", 1)], [("commit", 1), ("commit", 0)]])
        self.assertEqual(caught.exception.index, 1)

    def test_random_books_and_runs(self):
        rng = random.Random(61)
        found = []
        for _ in range(150):
            book = random_book(rng)
            book &= Book({entry: book[entry] for entry in ENTRIES}, keep=20)
            book["read late"] = "old"
            stamps = list(range(1, 12))
            runs = [random_run(rng, rng.randint(0, 4), stamps, "x") for _ in range(rng.randint(0, 3))]
            runs += [[*steps_of(commits(rng.randint(1, 4))), *random_run(rng, 1, [1], "x")]]
            answers, ends, _ = contents(book)
            keeps = [keep for keep in range(1, 21)
                     if all(model.lets_by(Book(answers, ends=ends, keep=keep), run) for run in runs)]
            found.append(least_keep(book, runs))
            self.assertEqual(found[-1], keeps[0] if keeps else None)
        self.assertTrue({None, 1, 2, 3} <= set(found))


class Rounds(unittest.TestCase):
    def check(self, book, count):
        before = contents(book)
        run = list(rounds(book, count))
        self.assertEqual(contents(book), before)
        self.assertIsNotNone(eldest(book))
        model.outcomes(book, run)
        self.assertNotIn(("void", (), None, ()), model.outcomes(book, run))
        self.assertEqual([step for step in run if not isinstance(step, tuple)], [])
        self.assertEqual(steps_like(run), run)
        self.assertGreaterEqual(model.falls_of_eldest(book, run), count)
        self.assertEqual(model.still_open(book, run), set())
        return run

    def test_one_kind_after_another(self):
        grants = {entry: answers_at(entry)[0] for entry in ENTRIES}
        for entry in ENTRIES:
            for answer in answers_at(entry):
                for ends in ("now", "after"):
                    book = Book({**grants, entry: answer}, ends=ends)
                    if eldest(book) is not None:
                        for count in (1, 2, 7):
                            with self.subTest(f"{entry} {answer} {ends} {count}"):
                                self.check(book, count)

    def test_counts(self):
        book = Book({"read below": "open"}, ends="after")
        lengths = [len(self.check(book, count)) for count in range(1, 21)]
        self.assertEqual(sorted(lengths), lengths)
        self.assertLessEqual(len(self.check(Book(), 0)), 400)

    def test_deep_rounds(self):
        for keep in (1, 2, 5, 20):
            book = answered("old", "last", "put", "skip", keep=keep)
            for count in (1, 3, 20):
                self.check(book, count)

    def test_nothing(self):
        for book in (answered("last", "put", "skip"), answered("last", "put", "skip", keep=20)):
            self.assertIsNone(eldest(book))
            for count in (1, 2, 20):
                self.assertEqual(list(rounds(book, count)), [])

    def test_random_books(self):
        rng = random.Random(62)
        for _ in range(60):
            book = random_book(rng)
            if eldest(book) is None:
                self.assertEqual(list(rounds(book, 3)), [])
            else:
                self.check(book, rng.randint(1, 5))

    def test_one_step_after_another(self):
        steps = rounds(Book(), 2)
        self.assertIs(iter(steps), steps)
        first = next(steps)
        self.assertEqual([first, *steps], list(rounds(Book(), 2)))


def steps_like(run):
    """The parts of a run that have the form of a step."""
    return [step for step in run if (len(step) == 2 and step[0] in ("commit", "abort") and step[1] >= 1)
            or (len(step) == 3 and step[0] in ("read", "write") and step[1] >= 1 and 1 <= len(step[2]) <= 8)]


def weaker(one, other):
    """Whether one book is weaker than another one."""
    apart = [entry for entry in ENTRIES if one[entry] != other[entry]]
    return apart != [] and all(LEVELS[one[entry]] > LEVELS[other[entry]] for entry in apart)


class Weakest(unittest.TestCase):
    def check(self, book, frame):
        """The books found are just those that the document asks for; how many there are."""
        before, lists = contents(book), {entry: list(answers) for entry, answers in frame.items()}
        found = weakest(book, frame)
        self.assertIsInstance(found, list)
        self.assertEqual(contents(book), before)
        self.assertEqual(frame, lists)
        books = []
        for choice in itertools.product(*frame.values()):
            made = book.copy()
            for entry, answer in zip(frame, choice):
                made[entry] = answer
            books.append(made)
        sound = [made for made in books if erring(made) is None]
        wanted = [contents(made) for made in sound if not any(weaker(other, made) for other in sound)]
        got = [contents(made) for made in found]
        self.assertEqual(len(got), len(wanted))
        for each in wanted:
            self.assertIn(each, got)
        for made in found:
            self.assertIsInstance(made, Book)
            self.assertIsNot(made, book)
        return len(found)

    def test_an_empty_frame(self):
        self.assertEqual(self.check(Book(keep=4, ends="after"), {}), 1)
        self.assertEqual(self.check(Book({"read below": "open"}), {}), 0)

    def test_an_entry_without_answers(self):
        self.assertEqual(weakest(Book(), {"read late": []}), [])
        self.assertEqual(weakest(Book(), {"read late": ["last"], "write late": [], "read below": ["open"]}), [])

    def test_one_answer_at_each_entry(self):
        self.assertEqual(self.check(Book(), {entry: [answers_at(entry)[-1]] for entry in ENTRIES}), 1)
        self.assertEqual(self.check(Book(), {entry: [answers_at(entry)[0]] for entry in ENTRIES}), 0)

    def test_one_entry(self):
        for entry in ENTRIES:
            for ends in ("now", "after"):
                book = Book({"write late": "skip"}, ends=ends, keep=2)
                self.check(book, {entry: list(answers_at(entry))})
                self.check(book, {entry: list(reversed(answers_at(entry)))})
        self.assertEqual([each["write late"] for each in weakest(Book(), {"write late": ["abort", "skip"]})], ["skip"])
        self.assertEqual([each["read below"] for each in weakest(Book(), {"read below": ["abort", "wait", "last"]})],
                         ["last"])

    def test_equal_levels_do_not_compare(self):
        found = weakest(Book(), {"write below": ["wound", "abort"]})
        self.assertEqual(sorted(each["write below"] for each in found), ["abort", "wound"])
        found = weakest(Book(), {"write below": ["wait", "wound", "abort"]})
        self.assertEqual([each["write below"] for each in found], ["wait"])

    def test_two_to_four_entries(self):
        for book in (Book(), Book(keep=2), Book(ends="after"), Book({"write late": "skip"}, ends="after", keep=3)):
            for entries in (("read late", "write late"), ("read above", "write free passed"),
                            ("read below", "write below", "write above"),
                            ("write free passed", "read above", "write own passed", "write late")):
                self.check(book, {entry: list(answers_at(entry)) for entry in entries})

    def test_almost_a_hundred_books(self):
        entries = ("read late", "write below", "write above", "write late")
        frame = {entry: list(answers_at(entry)) for entry in entries}
        for ends in ("now", "after"):
            self.assertGreater(self.check(Book(ends=ends, keep=3), frame), 0)

    def test_random_frames(self):
        rng = random.Random(63)
        for _ in range(30):
            book = random_book(rng)
            frame, size = {}, 1
            for entry in rng.sample(ENTRIES, 5):
                answers = rng.sample(answers_at(entry), rng.randint(1, len(answers_at(entry))))
                if size * len(answers) <= 24:
                    frame[entry], size = answers, size * len(answers)
            self.check(book, frame)

    def test_the_books_are_copies(self):
        book = Book()
        one, two = weakest(book, {})[0], weakest(book, {"read late": ["abort"]})[0]
        one["read below"] = "open"
        two["read above"] = "open"
        self.assertEqual((book["read below"], book["read above"], two["read below"]), ("abort",) * 3)

    def fails(self, error, fields, frame):
        with self.assertRaises((BadEntry, BadAnswer)) as caught:
            weakest(Book(), frame)
        self.assertIs(caught.exception.__class__, error)
        self.assertEqual({name: getattr(caught.exception, name) for name in fields}, fields)

    def test_bad_entries(self):
        for entry in NO_ENTRIES:
            if entry.__hash__ is not None:
                for answers in ([], ["abort"], ["no", "last"]):
                    self.fails(BadEntry, {"entry": entry}, {entry: answers})
                    self.fails(BadEntry, {"entry": entry}, {"read late": ["old"], entry: answers, "write late": ["no"]})

    def test_bad_answers(self):
        for answer in [*NO_ANSWERS, "open", "wait", "put", "skip"]:
            fields = {"entry": "read late", "answer": answer}
            self.fails(BadAnswer, fields, {"read late": [answer]})
            self.fails(BadAnswer, fields, {"read late": ["last", answer, "no"]})
            self.fails(BadAnswer, fields, {"read under": ["open"], "read late": ["last", answer], "no": []})
        self.fails(BadAnswer, {"entry": "write late", "answer": "no"}, {"read late": [], "write late": ["no"]})


class Blame(unittest.TestCase):
    def check(self, book):
        before = contents(book)
        found = blame(book)
        self.assertIsInstance(found, list)
        self.assertEqual(contents(book), before)
        wanted = [(entry, answer) for entry in ENTRIES for answer in answers_at(entry)
                  if LEVELS[answer] > LEVELS[book[entry]]]
        self.assertEqual([(entry, answer) for entry, answer, _ in found], wanted)
        for triple in found:
            self.assertIsInstance(triple, tuple)
            entry, answer, run = triple
            changed = book.copy()
            changed[entry] = answer
            expected = erring(changed)
            if expected is None:
                self.assertIsNone(run)
            else:
                self.assertEqual(len(run), len(expected))
                self.assertIsNotNone(model.fault(changed, run))
        return found

    def test_a_book_of_aborts(self):
        found = self.check(Book())
        self.assertEqual(len(found), 2 + 4 + 3 + 3 + 1 + 2 * 3 + 2 + 1 + 2 * 3)
        self.assertEqual([triple[:2] for triple in found[:8]],
                         [("read late", "last"), ("read late", "old"), ("read under", "last"), ("read under", "old"),
                          ("read under", "open"), ("read under", "wait"), ("read below", "last"),
                          ("read below", "open")])
        runs = {(entry, answer): run for entry, answer, run in found}
        self.assertEqual(len(runs["read late", "last"]), 4)
        self.assertIsNone(runs["read late", "old"])
        self.assertEqual(len(runs["read below", "open"]), 3)
        self.assertIsNone(runs["write late", "skip"])

    def test_nothing_higher(self):
        for ends in ("now", "after"):
            self.assertEqual(self.check(answered("last", "put", "skip", ends=ends)), [])
            self.assertEqual(self.check(answered("open", "old", "put", "skip", ends=ends)), [])

    def test_waits_and_wounds(self):
        found = self.check(answered("wait", "wound", keep=2))
        self.assertNotIn("wait", [answer for _, answer, _ in found])
        found = self.check(Book({"write below": "wound", "write above": "wait"}))
        self.assertEqual([answer for entry, answer, _ in found if entry == "write below"], ["skip", "wait"])
        self.assertEqual([answer for entry, answer, _ in found if entry == "write above"], ["skip"])

    def test_an_erring_book(self):
        found = self.check(Book({"read below": "open"}))
        self.assertTrue(all(run is not None for _, _, run in found))

    def test_random_books(self):
        rng = random.Random(64)
        for _ in range(15):
            self.check(random_book(rng))


if __name__ == "__main__":
    unittest.main()

"""Entries, answers, and books: making, reading, assigning, settings, copies."""

import unittest

from stamprules.books import ENTRIES, Book, answers_at
from stamprules.errors import BadAnswer, BadEntry, BadSetting
from tests.helpers import contents

ROWS = [
    ("read late", ("last", "old", "abort")),
    ("read under", ("last", "old", "open", "wait", "abort")),
    ("read below", ("last", "open", "wait", "abort")),
    ("read above", ("last", "open", "wait", "abort")),
    ("write late", ("skip", "abort")),
    ("write under", ("skip", "wait", "wound", "abort")),
    ("write below", ("skip", "wait", "wound", "abort")),
    ("write above", ("skip", "wait", "wound", "abort")),
    ("write free passed", ("put", "abort")),
    ("write own passed", ("put", "abort")),
    ("write late passed", ("skip", "abort")),
    ("write under passed", ("skip", "wait", "wound", "abort")),
    ("write below passed", ("skip", "wait", "wound", "abort")),
    ("write above passed", ("skip", "wait", "wound", "abort")),
]
ALL_ANSWERS = ("last", "old", "open", "put", "skip", "wait", "wound", "abort")
NO_ENTRIES = [
    "", " ", "read", "late", "read free", "read own", "write free", "write own", "read late passed",
    "read free passed", "read own passed", "read below passed", "read  late", "read late ", " read late", "Read late",
    "read Late", "READ LATE", "readlate", "read_late", "read\tlate", "read late\n", "late read", "read late late",
    "read read late", "write late passed passed", "write passed", "write passed late", "passed", "write free  passed",
    "write free passed ", "write free Passed", "write write free passed", "write  late", "write over",
    "read under open",
    "abort", "last", "ends", "keep", "write freepassed", 0, 1, -1, 14, True, False, None, 1.5, b"read late",
    ("read late",), ("read", "late"), ["read late"], {"read late"}, {"read late": "last"}, ENTRIES, Book(),
]
NO_ANSWERS = ["", " ", "Last", "LAST", "last ", " last", "lasts", "ski", "abort ", "Abort", "read late", "commit",
              "grant", 0, 1, 2, True, False, None, b"abort", ["abort"], ("abort",), {"abort"}, {}]
NO_ENDS = ["", "Now", "NOW", "now ", " after", "After", "later", "never", 0, 1, True, False, None, b"now", ["now"],
           ("now",), ("now", "after"), {}, 10 ** 40]
NO_KEEPS = [0, -1, -20, 21, 22, 100, 10 ** 30, -10 ** 30, 10 ** 6000, True, False, "1", "20", "", None, [1], (1,), {},
            1.0, b"1"]


class Entries(unittest.TestCase):
    def test_entries_in_order(self):
        self.assertIsInstance(ENTRIES, tuple)
        self.assertEqual(ENTRIES, tuple(entry for entry, _ in ROWS))

    def test_answers_in_order(self):
        for entry, answers in ROWS:
            with self.subTest(entry):
                self.assertIsInstance(answers_at(entry), tuple)
                self.assertEqual(answers_at(entry), answers)

    def test_no_entries(self):
        for number, entry in enumerate(NO_ENTRIES):
            with self.subTest(f"{number} {entry!r}"):
                with self.assertRaises(BadEntry) as caught:
                    answers_at(entry)
                self.assertIs(caught.exception.entry, entry)


class Making(unittest.TestCase):
    def test_without_arguments(self):
        for book in (Book(), Book(None), Book({}), Book(answers=None), Book(answers={})):
            self.assertEqual([book[entry] for entry in ENTRIES], ["abort"] * 14)
            self.assertEqual((book.ends, book.keep), ("now", 1))

    def test_each_answer_at_each_entry(self):
        for entry, answers in ROWS:
            for answer in answers:
                with self.subTest(f"{entry}: {answer}"):
                    book = Book({entry: answer})
                    expected = {each: "abort" for each, _ in ROWS}
                    expected[entry] = answer
                    self.assertEqual({each: book[each] for each, _ in ROWS}, expected)

    def test_all_entries_in_any_order(self):
        for at in range(5):
            answers = {entry: row[at % len(row)] for entry, row in ROWS}
            for given in (answers, dict(reversed(list(answers.items())))):
                book = Book(given, ends="after", keep=7)
                self.assertEqual(contents(book), (answers, "after", 7))
                self.assertEqual(list(book), list(ENTRIES))

    def test_settings(self):
        for ends in ("now", "after"):
            for keep in range(1, 21):
                book = Book({"read late": "old"}, ends=ends, keep=keep)
                self.assertEqual((book.ends, book.keep, book["read late"]), (ends, keep, "old"))
        self.assertEqual((Book(ends="after").ends, Book(ends="after").keep), ("after", 1))
        self.assertEqual((Book(keep=20).ends, Book(keep=20).keep), ("now", 20))

    def test_settings_are_properties_and_given_by_name(self):
        self.assertIsInstance(Book.__dict__["ends"], property)
        self.assertIsInstance(Book.__dict__["keep"], property)
        with self.assertRaises(TypeError):
            Book({}, "after")

    def test_the_dict_is_a_copy(self):
        answers = {"read late": "old", "write free passed": "put"}
        book = Book(answers)
        self.assertEqual(answers, {"read late": "old", "write free passed": "put"})
        answers["read late"] = "last"
        answers["read under"] = "open"
        del answers["write free passed"]
        self.assertEqual([book["read late"], book["read under"], book["write free passed"]], ["old", "abort", "put"])
        book["read late"] = "abort"
        book["write late"] = "skip"
        self.assertEqual(answers, {"read late": "last", "read under": "open"})

    def test_two_books_do_not_mix(self):
        one, two = Book(), Book()
        one["read late"] = "last"
        self.assertEqual(two["read late"], "abort")
        self.assertEqual(Book()["read late"], "abort")


class BadMaking(unittest.TestCase):
    def check(self, error, fields, *args, **named):
        with self.assertRaises(error) as caught:
            Book(*args, **named)
        self.assertIs(caught.exception.__class__, error)
        for name, value in fields.items():
            self.assertIs(getattr(caught.exception, name), value)

    def test_ends(self):
        for number, ends in enumerate(NO_ENDS):
            with self.subTest(number):
                self.check(BadSetting, {"given": ends}, ends=ends)
                self.check(BadSetting, {"given": ends}, {"read late": "old"}, ends=ends, keep=3)

    def test_keep(self):
        for number, keep in enumerate(NO_KEEPS):
            with self.subTest(number):
                self.check(BadSetting, {"given": keep}, keep=keep)
                self.check(BadSetting, {"given": keep}, {"read late": "old"}, ends="after", keep=keep)

    def test_bad_pairs(self):
        for number, entry in enumerate(NO_ENTRIES):
            if entry.__hash__ is None:
                continue
            for answer in ("abort", "last", "no", None):
                with self.subTest(f"{number} {answer}"):
                    self.check(BadEntry, {"entry": entry}, {entry: answer})
        for entry, answers in ROWS:
            for answer in [*NO_ANSWERS, *ALL_ANSWERS]:
                if answer not in answers:
                    with self.subTest(f"{entry}: {answer}"):
                        self.check(BadAnswer, {"entry": entry, "answer": answer}, {entry: answer})

    def test_order_of_errors(self):
        bad = {"read late": "open", "no": "abort"}
        self.check(BadSetting, {"given": "x"}, bad, ends="x", keep=0)
        self.check(BadSetting, {"given": "x"}, bad, ends="x")
        self.check(BadSetting, {"given": 0}, bad, keep=0)
        self.check(BadAnswer, {"entry": "read late", "answer": "open"}, bad)
        self.check(BadEntry, {"entry": "no"}, {"no": "abort", "read late": "open"})
        self.check(BadEntry, {"entry": "no"}, {"write late": "skip", "no": "wait", "Read late": "open"})
        self.check(BadAnswer, {"entry": "write above", "answer": "put"},
                   {"write late": "skip", "write above": "put", "read late": "open", None: None})

    def test_a_true_keep_is_none(self):
        self.check(BadSetting, {"given": True}, keep=True)


class ReadingAndAssigning(unittest.TestCase):
    def test_assign_each_answer(self):
        for entry, answers in ROWS:
            book = Book()
            for answer in (*answers, *reversed(answers)):
                book[entry] = answer
                self.assertEqual(book[entry], answer)
                self.assertEqual([book[each] for each in ENTRIES if each != entry], ["abort"] * 13)
        self.assertEqual((book.ends, book.keep), ("now", 1))

    def test_bad_entries(self):
        book = Book({entry: answers[0] for entry, answers in ROWS}, ends="after", keep=5)
        before = contents(book)
        for number, entry in enumerate(NO_ENTRIES):
            with self.subTest(f"{number} {entry!r}"):
                with self.assertRaises(BadEntry) as caught:
                    book[entry]
                self.assertIs(caught.exception.entry, entry)
                for answer in ("abort", "no", None):
                    with self.assertRaises(BadEntry) as caught:
                        book[entry] = answer
                    self.assertIs(caught.exception.entry, entry)
        self.assertEqual(contents(book), before)
        self.assertEqual(list(book), list(ENTRIES))

    def test_bad_answers(self):
        for entry, answers in ROWS:
            book = Book({entry: answers[0]})
            for answer in [*NO_ANSWERS, *ALL_ANSWERS]:
                if answer in answers:
                    continue
                with self.subTest(f"{entry}: {answer}"):
                    with self.assertRaises(BadAnswer) as caught:
                        book[entry] = answer
                    self.assertIs(caught.exception.entry, entry)
                    self.assertIs(caught.exception.answer, answer)
                    self.assertEqual(book[entry], answers[0])

    def test_iteration(self):
        book = Book({"write above passed": "wait", "read late": "last"})
        self.assertEqual(list(book), list(ENTRIES))
        self.assertEqual([entry for entry in book], list(ENTRIES))
        self.assertEqual(list(zip(book, book)), list(zip(ENTRIES, ENTRIES)))
        for entry in book:
            book[entry] = answers_at(entry)[0]
        self.assertEqual(list(book), list(ENTRIES))
        self.assertEqual([book[entry] for entry in book], [answers[0] for _, answers in ROWS])


class Copies(unittest.TestCase):
    def test_the_same_contents(self):
        for at in range(5):
            for ends, keep in (("now", 1), ("after", 20), ("now", 7)):
                book = Book({entry: row[at % len(row)] for entry, row in ROWS}, ends=ends, keep=keep)
                copied = book.copy()
                self.assertIsInstance(copied, Book)
                self.assertIsNot(copied, book)
                self.assertEqual(contents(copied), contents(book))
                self.assertEqual(list(copied), list(ENTRIES))

    def test_independent_both_ways(self):
        book = Book({"read late": "old"}, ends="now", keep=7)
        copied = book.copy()
        again = copied.copy()
        book["read late"] = "last"
        copied["write late"] = "skip"
        self.assertEqual([(each["read late"], each["write late"]) for each in (book, copied, again)],
                         [("last", "abort"), ("old", "skip"), ("old", "abort")])
        copied &= Book(ends="after", keep=2)
        self.assertEqual([(each.ends, each.keep) for each in (book, copied, again)],
                         [("now", 7), ("after", 2), ("now", 7)])
        book &= Book(ends="after", keep=3)
        self.assertEqual([(each.ends, each.keep) for each in (book, copied, again)],
                         [("after", 3), ("after", 2), ("now", 7)])
        self.assertEqual(again["read late"], "old")


if __name__ == "__main__":
    unittest.main()

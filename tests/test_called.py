"""Called books: the answer to a request with these stamps at its item."""

import unittest

from stamprules.books import ENTRIES, Book, answers_at
from stamprules.stamps import Stamp

MOST = 10 ** 30
# Per place: the asker, the last version, the holder.
PLACES = {
    "free": [(2, 1, None), (1, 0, None), (MOST, MOST - 1, None), (700, 3, None)],
    "late": [(1, 2, None), (3, 700, None), (MOST - 1, MOST, None)],
    "own": [(2, 1, 2), (1, 0, 1), (MOST, 0, MOST), (700, 699, 700)],
    "below": [(2, 1, 3), (1, 0, 2), (MOST - 1, MOST - 2, MOST), (40, 3, 700)],
    "above": [(3, 1, 2), (2, 0, 1), (MOST, MOST - 2, MOST - 1), (700, 3, 40)],
    "under": [(1, 2, 3), (3, 40, 700), (MOST - 2, MOST - 1, MOST)],
}


def stamps(*numbers):
    return [None if number is None else Stamp(number) for number in numbers]


def books():
    """Books that together tell every two entries apart, where their answers can."""
    for at in range(5):
        yield Book({entry: answers_at(entry)[at % len(answers_at(entry))] for entry in ENTRIES})
    for entry in ENTRIES:
        yield Book({entry: answers_at(entry)[0]}, ends="after", keep=20)


class Called(unittest.TestCase):
    def test_reads(self):
        for book in books():
            for place, rows in PLACES.items():
                expected = {"free": "last", "own": "open"}.get(place) or book[f"read {place}"]
                for asker, last, holder in rows:
                    for reader in (None, 0, 1, asker - 1, asker, asker + 1, MOST):
                        if reader is not None and reader > MOST:
                            continue
                        with self.subTest(f"{place} {asker} {last} {holder} {reader}"):
                            self.assertEqual(book("read", *stamps(asker, last, holder, reader)), expected)

    def test_writes_that_are_not_passed(self):
        for book in books():
            for place, rows in PLACES.items():
                expected = "put" if place in ("free", "own") else book[f"write {place}"]
                for asker, last, holder in rows:
                    for reader in (None, 0, asker - 1, asker):
                        with self.subTest(f"{place} {asker} {last} {holder} {reader}"):
                            self.assertEqual(book("write", *stamps(asker, last, holder, reader)), expected)

    def test_passed_writes(self):
        for book in books():
            for place, rows in PLACES.items():
                for asker, last, holder in rows:
                    for reader in (asker + 1, asker + 2, MOST):
                        if asker < reader <= MOST:
                            with self.subTest(f"{place} {asker} {last} {holder} {reader}"):
                                self.assertEqual(book("write", *stamps(asker, last, holder, reader)),
                                                 book[f"write {place} passed"])

    def test_arguments_left_out_and_by_name(self):
        book = Book({"read late": "old", "write late": "skip", "write free passed": "put"})
        self.assertEqual(book("read", Stamp(1), Stamp(0)), "last")
        self.assertEqual(book("read", Stamp(1), Stamp(2)), "old")
        self.assertEqual(book("read", Stamp(1), Stamp(0), Stamp(1)), "open")
        self.assertEqual(book("write", Stamp(1), Stamp(0)), "put")
        self.assertEqual(book("write", Stamp(1), Stamp(2)), "skip")
        self.assertEqual(book("write", Stamp(1), Stamp(0), Stamp(2)), "abort")
        self.assertEqual(book("write", Stamp(1), Stamp(0), None, Stamp(2)), "put")
        self.assertEqual(book(kind="write", asker=Stamp(1), last=Stamp(2), reader=Stamp(3), holder=None), "abort")

    def test_fixed_answers_of_a_book_of_aborts(self):
        book = Book()
        self.assertEqual(book("read", Stamp(5), Stamp(3), None, Stamp(9)), "last")
        self.assertEqual(book("read", Stamp(5), Stamp(3), Stamp(5), Stamp(9)), "open")
        self.assertEqual(book("write", Stamp(5), Stamp(3), None, Stamp(5)), "put")
        self.assertEqual(book("write", Stamp(5), Stamp(3), Stamp(5), Stamp(5)), "put")
        self.assertEqual(book("write", Stamp(5), Stamp(3), None, Stamp(6)), "abort")
        self.assertEqual(book("write", Stamp(5), Stamp(3), Stamp(5), Stamp(6)), "abort")

    def test_the_answer_old_is_returned_as_it_stands(self):
        for keep in (1, 20):
            book = Book({"read late": "old", "read under": "old"}, keep=keep)
            self.assertEqual(book("read", Stamp(1), Stamp(2)), "old")
            self.assertEqual(book("read", Stamp(1), Stamp(2), Stamp(3)), "old")

    def test_it_follows_the_book(self):
        book = Book()
        self.assertEqual(book("write", Stamp(1), Stamp(0), Stamp(2)), "abort")
        book["write below"] = "wait"
        self.assertEqual(book("write", Stamp(1), Stamp(0), Stamp(2)), "wait")
        self.assertEqual([book[entry] for entry in ENTRIES].count("abort"), 13)


if __name__ == "__main__":
    unittest.main()

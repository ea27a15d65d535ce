"""`book &= other`: answers, ends, keep, and who is changed."""

import random
import unittest

from stamprules.books import ENTRIES, Book, answers_at
from tests.helpers import LEVELS, contents, random_book


def expected_answer(one, two):
    """The answer that counts where these two stand."""
    if one == two:
        return one
    if LEVELS[one] == LEVELS[two]:
        return "abort"
    return min(one, two, key=LEVELS.get)


class Meeting(unittest.TestCase):
    def test_each_pair_of_answers(self):
        for entry in ENTRIES:
            for one in answers_at(entry):
                for two in answers_at(entry):
                    with self.subTest(f"{entry}: {one} and {two}"):
                        book, other = Book({entry: one}), Book({entry: two})
                        book &= other
                        self.assertEqual(book[entry], expected_answer(one, two))
                        self.assertEqual(other[entry], two)
                        self.assertEqual([book[each] for each in ENTRIES if each != entry], ["abort"] * 13)

    def test_some_pairs_in_full(self):
        for entry, one, two, result in (
            ("read late", "last", "old", "abort"), ("read late", "old", "abort", "abort"),
            ("read under", "open", "open", "open"), ("read under", "old", "open", "abort"),
            ("read under", "open", "wait", "wait"), ("read below", "wait", "last", "wait"),
            ("write above", "wound", "abort", "abort"), ("write above", "wound", "wait", "wound"),
            ("write above", "skip", "wound", "wound"), ("write above", "wait", "skip", "wait"),
            ("write below", "wound", "wound", "wound"), ("write under passed", "abort", "wound", "abort"),
            ("write free passed", "put", "abort", "abort"), ("write own passed", "put", "put", "put"),
        ):
            for left, right in ((one, two), (two, one)):
                book = Book({entry: left})
                book &= Book({entry: right})
                self.assertEqual(book[entry], result)

    def test_ends(self):
        for one in ("now", "after"):
            for two in ("now", "after"):
                book, other = Book(ends=one), Book(ends=two)
                book &= other
                self.assertEqual(book.ends, "after" if "after" in (one, two) else "now")
                self.assertEqual(other.ends, two)

    def test_keep(self):
        for one in range(1, 21):
            for two in range(1, 21):
                book, other = Book(keep=one), Book(keep=two)
                book &= other
                self.assertEqual((book.keep, other.keep), (min(one, two), two))

    def test_all_at_once_with_random_books(self):
        rng = random.Random(5)
        for _ in range(200):
            book, other, third = [random_book(rng, range(1, 21)) for _ in range(3)]
            kept, stays = book.copy(), contents(other)
            alias = book
            book &= other
            self.assertIs(book, alias)
            self.assertEqual(contents(other), stays)
            answers = {entry: expected_answer(kept[entry], other[entry]) for entry in ENTRIES}
            ends = "after" if "after" in (kept.ends, other.ends) else "now"
            self.assertEqual(contents(book), (answers, ends, min(kept.keep, other.keep)))
            once = contents(book)
            book &= other
            self.assertEqual(contents(book), once)
            book &= third
            kept &= other
            kept &= third
            self.assertEqual(contents(kept), contents(book))

    def test_other_names_of_the_book_see_the_change(self):
        book = Book({"read late": "last"}, keep=9)
        shelf = [book]
        name = book
        book &= Book(ends="after", keep=4)
        self.assertIs(shelf[0], book)
        self.assertEqual((name["read late"], name.ends, name.keep), ("abort", "after", 4))
        shelf[0] &= Book(keep=2)
        self.assertEqual((book.keep, book.ends), (2, "after"))

    def test_with_itself(self):
        rng = random.Random(6)
        for _ in range(20):
            book = random_book(rng)
            before = contents(book)
            book &= book
            self.assertEqual(contents(book), before)

    def test_later_changes_do_not_reach_the_other(self):
        book, other = Book({"write late": "skip"}), Book({"write late": "skip"}, ends="after", keep=1)
        book &= other
        book["write late"] = "abort"
        self.assertEqual(other["write late"], "skip")
        other["read late"] = "last"
        self.assertEqual(book["read late"], "abort")

    def test_what_is_no_book(self):
        for other in (None, 1, "now", {}, {"read late": "last"}):
            book = Book({"read late": "last"})
            with self.assertRaises(TypeError):
                book &= other
            self.assertEqual(book["read late"], "last")


if __name__ == "__main__":
    unittest.main()

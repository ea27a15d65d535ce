"""The desk: what its transactions get for their steps, and what it says of items and transactions."""

import random
import unittest

from stamprules import desk as module
from stamprules.books import Book
from stamprules.desk import Desk, Reader, Transaction, Writer
from stamprules.errors import BadStamp, BrokenOff, Finished, MustWait, StampError, TooLate
from stamprules.stamps import Stamp
from tests.helpers import answered, contents, random_book, random_run
from tests.model import Model

MOST = 10 ** 30


def ask(asker, step, value=None):
    """Let a transaction take a step; what it returns."""
    if step[0] == "read":
        return asker.read(step[2])
    if step[0] == "write":
        return asker.write(step[2], value)
    return asker.commit() if step[0] == "commit" else asker.abort()


class Checks(unittest.TestCase):
    def fails(self, error, fields, call, *args):
        """The call raises just this error with these fields; the error."""
        with self.assertRaises(StampError) as caught:
            call(*args)
        self.assertIs(caught.exception.__class__, error)
        self.assertEqual({name: getattr(caught.exception, name) for name in fields}, fields)
        return caught.exception

    def breaks(self, stamp, entry, call, *args):
        """The call breaks its transaction off at this entry."""
        error = self.fails(BrokenOff, {"stamp": stamp}, call, *args)
        self.assertIs(error.__cause__.__class__, TooLate)
        self.assertEqual(error.__cause__.entry, entry)

    def follows(self, outcome, asker, step, value=None):
        """A step of this transaction returns or raises what this outcome says."""
        word, met, got, _ = outcome
        stamp = step[1]
        call = (ask, asker, step, value)
        if word == "void":
            self.fails(Finished, {"stamp": stamp}, *call)
        elif word == "wait":
            self.fails(MustWait, {"stamp": stamp, "holders": got}, *call)
        elif word == "abort" and step[0] != "abort":
            self.breaks(stamp, met[-1], *call)
        elif word in ("put", "skip"):
            self.assertIs(ask(asker, step, value), word == "put")
        else:
            self.assertEqual(ask(asker, step, value), got)

    def agrees(self, desk, model, stamps, items):
        """The desk says of these transactions and items what the model knows."""
        for stamp in stamps:
            self.assertEqual(desk.state_of(stamp), model.ended.get(stamp, "open"))
        for item in items:
            self.assertEqual(desk.versions(item), model.kept(item))
            self.assertEqual(desk.holder_of(item), model.holder(item))
            self.assertEqual(desk.reader_of(item), model.reader.get(item, 0))


class Beginning(Checks):
    def test_stamps_left_out(self):
        desk = Desk(Book())
        for number in range(1, 101):
            asker = desk.begin()
            self.assertIsInstance(asker, Transaction)
            self.assertIsInstance(asker.stamp, Stamp)
            self.assertEqual(asker.stamp, Stamp(number))
            self.assertEqual(desk.state_of(number), "open")

    def test_stamps_given(self):
        desk = Desk(Book())
        self.assertEqual(desk.begin(stamp=5).stamp.number, 5)
        self.assertEqual(desk.begin().stamp.number, 6)
        self.assertEqual(desk.begin(stamp=None).stamp.number, 7)
        self.assertEqual(desk.begin(stamp=1000).stamp.number, 1000)
        self.assertEqual(desk.begin(stamp=1001).stamp.number, 1001)
        self.assertEqual(desk.begin(stamp=MOST).stamp.number, MOST)

    def test_wrong_stamps(self):
        desk = Desk(Book())
        wrong = [0, -1, MOST + 1, 10 ** 6000, True, False, "1", "", b"1", [1], (1,), {}, Stamp(1), 1.0]
        for number, stamp in enumerate(wrong):
            with self.subTest(number):
                with self.assertRaises(BadStamp) as caught:
                    desk.begin(stamp=stamp)
                self.assertIs(caught.exception.given, stamp)
        self.assertEqual(desk.begin().stamp.number, 1)
        desk.begin(stamp=7)
        for stamp in (7, 6, 1, 0, -7, True, "8", MOST + 1):
            self.fails(BadStamp, {"given": stamp}, lambda: desk.begin(stamp=stamp))
        self.assertEqual(desk.begin().stamp.number, 8)

    def test_the_stamp_is_given_by_name(self):
        with self.assertRaises(TypeError):
            Desk(Book()).begin(1)

    def test_the_greatest_counts_though_it_is_over(self):
        desk = Desk(Book())
        first = desk.begin(stamp=9)
        first.abort()
        self.fails(BadStamp, {"given": 9}, lambda: desk.begin(stamp=9))
        second = desk.begin()
        second.commit()
        self.assertEqual(second.stamp.number, 10)
        self.assertEqual(desk.begin().stamp.number, 11)

    def test_no_stamp_behind_the_greatest_one(self):
        desk = Desk(Book())
        desk.begin(stamp=MOST - 1)
        self.assertEqual(desk.begin().stamp.number, MOST)
        with self.assertRaises(BadStamp):
            desk.begin()
        with self.assertRaises(BadStamp):
            desk.begin()
        self.assertEqual(desk.state_of(MOST), "open")

    def test_states(self):
        desk = Desk(Book())
        one, two, _ = desk.begin(), desk.begin(stamp=5), desk.begin(stamp=MOST)
        one.commit()
        two.abort()
        self.assertEqual([desk.state_of(stamp) for stamp in (1, 5, MOST)], ["committed", "aborted", "open"])
        for stamp in (0, 2, 4, 6, MOST - 1, MOST + 1, -1, True, False, "1", None, [1], Stamp(1), 10 ** 6000):
            with self.assertRaises(BadStamp) as caught:
                desk.state_of(stamp)
            self.assertIs(caught.exception.given, stamp)


class Classes(unittest.TestCase):
    def test_bases_and_where_methods_stand(self):
        self.assertEqual(Transaction.__bases__, (Reader, Writer))
        self.assertIn("read", vars(Reader))
        self.assertIn("write", vars(Writer))
        self.assertTrue({"commit", "abort"} <= set(vars(Transaction)))
        self.assertTrue({"begin", "versions", "holder_of", "reader_of", "state_of"} <= set(vars(Desk)))
        for name in ("Desk", "Reader", "Writer", "Transaction", "perform"):
            self.assertEqual(getattr(module, name).__module__, "stamprules.desk")


class Steps(Checks):
    def test_what_steps_return(self):
        desk = Desk(Book({"write late": "skip", "read late": "last"}))
        one, two = desk.begin(), desk.begin()
        self.assertEqual(two.read("x"), 0)
        self.assertIs(two.write("x", 70), True)
        self.assertEqual(two.read("x"), 70)
        self.assertIsNone(two.commit())
        self.assertIs(desk.begin().write("y", 1), True)
        self.assertEqual(one.read("x"), 70)
        self.assertIsNone(one.abort())

    def test_skipped_writes(self):
        desk = Desk(Book({"write late": "skip"}))
        one, two = desk.begin(), desk.begin()
        two.write("x", 5)
        two.commit()
        self.assertIs(one.write("x", 6), False)
        self.assertEqual(desk.versions("x"), [(2, 5)])
        self.assertIsNone(desk.holder_of("x"))

    def test_finished_comes_first(self):
        desk = Desk(answered("wait", ends="after"))
        one, two, three = desk.begin(), desk.begin(), desk.begin()
        two.write("x", 1)
        one.commit()
        three.abort()
        for asker in (one, three):
            for step in (("read", 0, "x"), ("write", 0, "x"), ("commit", 0), ("abort", 0)):
                self.fails(Finished, {"stamp": asker.stamp.number}, ask, asker, step, 1)
        self.assertEqual(desk.holder_of("x"), 2)
        self.assertEqual(desk.reader_of("x"), 0)

    def test_must_wait_for_a_holder(self):
        desk = Desk(Book({"read below": "wait", "write below": "wait"}))
        one, two = desk.begin(), desk.begin()
        two.write("x", 1)
        for _ in range(2):
            self.fails(MustWait, {"stamp": 1, "holders": (2,)}, one.read, "x")
            self.fails(MustWait, {"stamp": 1, "holders": (2,)}, one.write, "x", 5)
        self.assertEqual(desk.state_of(1), "open")
        self.assertEqual(desk.reader_of("x"), 0)
        two.abort()
        self.assertEqual(one.read("x"), 0)
        self.assertIs(one.write("x", 5), True)

    def test_a_commit_must_wait_for_all_it_is_bound_to(self):
        desk = Desk(Book({"read above": "open", "write above": "skip"}, ends="after"))
        askers = [desk.begin() for _ in range(4)]
        for asker, item in zip(askers, "abc"):
            asker.write(item, 1)
        last = askers[3]
        self.assertEqual(last.read("c"), 1)
        self.assertEqual(last.read("a"), 1)
        self.assertIs(last.write("b", 9), False)
        self.fails(MustWait, {"stamp": 4, "holders": (1, 2, 3)}, last.commit)
        askers[1].commit()
        self.fails(MustWait, {"stamp": 4, "holders": (1, 3)}, last.commit)
        self.assertEqual(desk.state_of(4), "open")
        askers[0].commit()
        askers[2].commit()
        self.assertIsNone(last.commit())

    def test_an_explicit_commit_that_must_wait_is_not_done_later(self):
        desk = Desk(Book({"read above": "open"}, ends="after"))
        one, two = desk.begin(), desk.begin()
        one.write("x", 1)
        two.read("x")
        self.fails(MustWait, {"stamp": 2, "holders": (1,)}, two.commit)
        one.commit()
        self.assertEqual(desk.state_of(2), "open")
        two.commit()
        self.assertEqual(desk.state_of(2), "committed")

    def test_broken_off(self):
        desk = Desk(Book())
        one, two = desk.begin(), desk.begin()
        one.write("y", 3)
        two.write("x", 1)
        self.breaks(1, "read below", one.read, "x")
        self.assertEqual(desk.state_of(1), "aborted")
        self.assertIsNone(desk.holder_of("y"))
        self.fails(Finished, {"stamp": 1}, one.read, "x")

    def test_broken_off_at_the_second_entry(self):
        desk = Desk(Book({"write under": "wound"}))
        one, two, three = desk.begin(), desk.begin(), desk.begin()
        two.write("x", 1)
        two.commit()
        three.write("x", 2)
        self.breaks(1, "write late", one.write, "x", 3)
        self.assertEqual([desk.state_of(stamp) for stamp in (1, 2, 3)], ["aborted", "committed", "aborted"])

    def test_broken_off_with_the_holder_that_it_wounds(self):
        desk = Desk(Book({"read below": "open", "write below": "wound"}, ends="after"))
        one, two = desk.begin(), desk.begin()
        two.write("x", 1)
        one.read("x")
        self.breaks(1, "write below", one.write, "x", 3)
        self.assertEqual([desk.state_of(stamp) for stamp in (1, 2)], ["aborted", "aborted"])

    def test_old_without_an_older_version(self):
        for keep in (1, 2, 20):
            desk = Desk(Book({"read late": "old"}, keep=keep))
            first = desk.begin()
            for value in range(1, keep):
                asker = desk.begin()
                asker.write("x", value)
                asker.commit()
                self.assertEqual(first.read("x"), 0)
            asker = desk.begin()
            asker.write("x", 77)
            asker.commit()
            self.assertEqual(len(desk.versions("x")), keep)
            self.breaks(1, "read late", first.read, "x")

    def test_great_values(self):
        desk = Desk(Book({"read late": "old", "read above": "open"}, keep=3))
        early = desk.begin()
        for value in (10 ** 30, -10 ** 30, 0, -1, 10 ** 30 - 1):
            asker, later = desk.begin(), desk.begin()
            asker.write("abcdefgh", value)
            self.assertEqual(asker.read("abcdefgh"), value)
            self.assertEqual(later.read("abcdefgh"), value)
            later.abort()
            asker.commit()
            self.assertEqual(desk.versions("abcdefgh")[-1], (asker.stamp.number, value))
        self.assertEqual(desk.versions("abcdefgh"), [(6, 0), (8, -1), (10, 10 ** 30 - 1)])
        self.breaks(1, "read late", early.read, "abcdefgh")

    def test_equal_values_are_no_sign(self):
        desk = Desk(Book({"read above": "open", "read late": "last"}))
        one, two = desk.begin(), desk.begin()
        one.write("x", 0)
        self.assertEqual(two.read("x"), 0)
        one.commit()
        self.assertEqual(desk.versions("x"), [(1, 0)])

    def test_items_that_nobody_asked_for(self):
        desk = Desk(Book(keep=3))
        self.assertEqual((desk.versions("q"), desk.holder_of("q"), desk.reader_of("q")), ([(0, 0)], None, 0))

    def test_versions_is_a_list_of_its_own(self):
        desk = Desk(Book(keep=2))
        found = desk.versions("x")
        self.assertIsInstance(found, list)
        found.append((9, 9))
        found[0] = None
        self.assertEqual(desk.versions("x"), [(0, 0)])

    def test_readers_stay_though_they_fall(self):
        desk = Desk(Book())
        one, two = desk.begin(), desk.begin()
        two.read("x")
        two.abort()
        self.assertEqual(desk.reader_of("x"), 2)
        self.breaks(1, "write free passed", one.write, "x", 1)
        self.assertEqual(desk.reader_of("x"), 2)


class Copies(Checks):
    def test_the_desk_does_not_follow_the_book(self):
        book = Book({"read late": "old", "write late": "skip"}, keep=2)
        desk = Desk(book)
        self.assertEqual(contents(book), contents(Book({"read late": "old", "write late": "skip"}, keep=2)))
        book["read late"] = "abort"
        book["write late"] = "abort"
        book &= Book(ends="after", keep=1)
        one, two = desk.begin(), desk.begin()
        two.write("x", 5)
        two.commit()
        self.assertEqual(one.read("x"), 0)
        self.assertIs(one.write("x", 1), False)
        self.assertEqual(desk.versions("x"), [(0, 0), (2, 5)])

    def test_the_book_stays_as_it_is(self):
        book = answered("wound", "open", "skip", ends="after", keep=2)
        before = contents(book)
        desk = Desk(book)
        one, two = desk.begin(), desk.begin()
        two.write("x", 1)
        one.write("x", 1)
        one.commit()
        self.assertEqual(contents(book), before)

    def test_two_desks(self):
        book = Book({"read above": "open"}, ends="after")
        left, right = Desk(book), Desk(book)
        one, other = left.begin(), right.begin(stamp=1)
        one.write("x", 5)
        self.assertEqual(other.read("x"), 0)
        self.assertIsNone(right.holder_of("x"))
        other.abort()
        self.assertEqual((left.state_of(1), right.state_of(1)), ("open", "aborted"))
        with right.begin() as asker:
            asker.write("y", 1)
        one.commit()
        self.assertEqual((left.versions("x"), right.versions("x")), ([(1, 5)], [(0, 0)]))
        self.assertEqual((left.versions("y"), right.versions("y")), ([(0, 0)], [(2, 1)]))
        self.assertEqual(left.begin().stamp.number, 2)


class AgainstTheModel(Checks):
    def play(self, rng, book, steps):
        """A desk and the model take the same steps, transactions beginning in between."""
        desk, model, askers = Desk(book), Model(book), {}
        for number, step in enumerate(steps, start=1):
            while len(askers) < 2 or rng.random() < 0.2:
                stamp = max(askers, default=0) + rng.randint(1, 3)
                askers[stamp] = desk.begin(stamp=stamp)
            asker = rng.choice(list(askers.values()))
            step = (step[0], asker.stamp.number, *step[2:])
            value = rng.choice((number, -number, number * 10 ** 27))
            self.follows(model.step(step, value), asker, step, value)
            self.agrees(desk, model, askers, "xy")

    def test_random_steps(self):
        rng = random.Random(31)
        for _ in range(400):
            book = random_book(rng)
            self.play(rng, book, random_run(rng, 25, (1,), "xy"[:rng.randint(1, 2)]))

    def test_all_begin_before_the_first_step(self):
        rng = random.Random(32)
        for _ in range(300):
            book = random_book(rng)
            desk, model = Desk(book), Model(book)
            askers = {stamp: desk.begin(stamp=stamp) for stamp in (1, 2, 3, 5, 8, MOST)}
            for number, step in enumerate(random_run(rng, 30, list(askers), "xyz"), start=1):
                self.follows(model.step(step, number), askers[step[1]], step, number)
                self.agrees(desk, model, askers, "xyz")


if __name__ == "__main__":
    unittest.main()

"""Transactions as blocks, what a desk does when they are left, and perform."""

import random
import unittest

from stamprules.books import Book
from stamprules.desk import Desk, perform
from stamprules.errors import BadStamp, BrokenOff, Finished, MustWait, TooLate
from tests.helpers import random_book
from tests.model import Model

AFTER = {"read above": "open", "read below": "open", "write above": "skip"}


class Stop(Exception):
    """Something that is no business of the desk."""


class Leaving(unittest.TestCase):
    def test_with_the_commit(self):
        desk = Desk(Book())
        with desk.begin() as asker:
            self.assertIs(asker.write("x", 5), True)
            self.assertEqual(desk.state_of(1), "open")
            self.assertEqual(desk.holder_of("x"), 1)
        self.assertEqual(desk.versions("x"), [(1, 5)])
        self.assertEqual(desk.state_of(1), "committed")
        self.assertIsNone(desk.holder_of("x"))

    def test_each_question_alone_behind_a_block(self):
        for ask, expected in ((lambda desk: desk.versions("x"), [(1, 5)]), (lambda desk: desk.holder_of("x"), None),
                              (lambda desk: desk.reader_of("x"), 1), (lambda desk: desk.state_of(1), "committed")):
            desk = Desk(Book())
            with desk.begin() as asker:
                asker.read("x")
                asker.write("x", 5)
            self.assertEqual(ask(desk), expected)

    def test_the_block_gives_the_transaction(self):
        asker = Desk(Book()).begin()
        with asker as held:
            self.assertIs(held, asker)

    def test_with_the_abort(self):
        for error in (Stop("no"), ValueError(), KeyboardInterrupt(), MustWait(1, (2,))):
            desk = Desk(Book())
            with self.assertRaises(error.__class__) as caught:
                with desk.begin() as asker:
                    asker.write("x", 5)
                    raise error
            self.assertIs(caught.exception, error)
            self.assertEqual(desk.state_of(1), "aborted")
            self.assertEqual(desk.versions("x"), [(0, 0)])
            self.assertIsNone(desk.holder_of("x"))

    def test_an_exception_that_does_not_leave_the_block(self):
        desk = Desk(Book({"read below": "wait"}))
        one, two = desk.begin(), desk.begin()
        two.write("x", 1)
        with one:
            try:
                one.read("x")
            except MustWait:
                pass
        self.assertEqual(desk.state_of(1), "committed")

    def test_whatever_is_asked_first(self):
        asks = [
            lambda desk: desk.begin(), lambda desk: desk.versions("y"), lambda desk: desk.holder_of("y"),
            lambda desk: desk.reader_of("y"), lambda desk: desk.state_of(2), lambda desk: perform(desk, []),
        ]
        for number, ask in enumerate(asks):
            desk = Desk(Book({"read above": "wait"}))
            with desk.begin() as asker:
                other = desk.begin()
                asker.write("x", 5)
            ask(desk)
            self.assertEqual(desk.versions("x"), [(1, 5)], number)
            self.assertEqual(other.read("x"), 5)

    def test_a_step_of_another_transaction_comes_later(self):
        for step, expected in ((lambda other: other.read("x"), 5), (lambda other: other.write("x", 6), True),
                               (lambda other: other.commit(), None), (lambda other: other.abort(), None)):
            desk = Desk(Book())
            with desk.begin() as asker:
                other = desk.begin()
                asker.write("x", 5)
            self.assertEqual(step(other), expected)
            self.assertEqual(desk.state_of(1), "committed")
            self.assertEqual(desk.versions("x"), [(1, 5)])

    def test_a_wrong_question_comes_later_too(self):
        desk = Desk(Book())
        with desk.begin(stamp=4) as asker:
            asker.write("x", 5)
        with self.assertRaises(BadStamp):
            desk.begin(stamp=4)
        with self.assertRaises(BadStamp):
            desk.state_of(3)
        self.assertEqual(desk.versions("x"), [(4, 5)])

    def test_finished_behind_the_block(self):
        desk = Desk(Book())
        with desk.begin() as asker:
            pass
        for call in (lambda: asker.read("x"), lambda: asker.write("x", 1), asker.commit, asker.abort):
            with self.assertRaises(Finished) as caught:
                call()
            self.assertEqual(caught.exception.stamp, 1)
        with self.assertRaises(Stop):
            with desk.begin() as asker:
                raise Stop
        self.assertRaises(Finished, asker.commit)
        self.assertEqual(desk.state_of(2), "aborted")

    def test_ended_inside_of_the_block(self):
        desk = Desk(Book())
        with desk.begin() as one:
            one.write("x", 1)
            one.commit()
        with desk.begin() as two:
            two.write("x", 2)
            two.abort()
        with self.assertRaises(Stop):
            with desk.begin() as three:
                three.write("y", 3)
                three.commit()
                raise Stop
        self.assertEqual([desk.state_of(stamp) for stamp in (1, 2, 3)], ["committed", "aborted", "committed"])
        self.assertEqual((desk.versions("x"), desk.versions("y")), ([(1, 1)], [(3, 3)]))

    def test_broken_off_inside_of_the_block(self):
        desk = Desk(Book())
        early = desk.begin()
        with desk.begin() as asker:
            asker.write("x", 1)
        with self.assertRaises(BrokenOff) as caught:
            with early:
                early.write("y", 5)
                early.read("x")
        self.assertEqual(caught.exception.stamp, 1)
        self.assertIs(caught.exception.__cause__.__class__, TooLate)
        self.assertEqual(caught.exception.__cause__.entry, "read late")
        self.assertEqual(desk.state_of(1), "aborted")
        self.assertIsNone(desk.holder_of("y"))

    def test_blocks_in_blocks(self):
        desk = Desk(Book())
        with desk.begin() as one:
            one.write("x", 1)
            with desk.begin() as two:
                two.write("y", 2)
            self.assertEqual(desk.state_of(2), "committed")
            self.assertEqual(desk.state_of(1), "open")
        self.assertEqual(desk.state_of(1), "committed")
        with self.assertRaises(Stop):
            with desk.begin() as three, desk.begin() as four:
                three.write("x", 3)
                four.write("y", 4)
                raise Stop
        self.assertEqual([desk.state_of(stamp) for stamp in (3, 4)], ["aborted", "aborted"])
        self.assertEqual((desk.versions("x"), desk.versions("y")), ([(1, 1)], [(2, 2)]))

    def test_in_the_order_of_leaving(self):
        # The abort is done first, and takes with it whoever is bound.
        for bound, expected in ((True, ["aborted", "aborted"]), (False, ["committed", "aborted"])):
            desk = Desk(Book(AFTER, ends="after"))
            one, two = desk.begin(), desk.begin()
            two.write("x", 1)
            if bound:
                one.read("x")
            self.assertRaises(Stop, self.leave_with_stop, two)
            with one:
                pass
            self.assertEqual([desk.state_of(1), desk.state_of(2)], expected)

    def leave_with_stop(self, asker):
        with asker:
            raise Stop


class Waiting(unittest.TestCase):
    def bound(self, count=2):
        """A desk and transactions of which each one but the first is bound to the one before."""
        desk = Desk(Book(AFTER, ends="after"))
        askers = [desk.begin() for _ in range(count)]
        for at, asker in enumerate(askers):
            asker.write(f"i{at}", at)
            if at > 0:
                asker.read(f"i{at - 1}")
        return desk, askers

    def states(self, desk, count):
        return [desk.state_of(stamp) for stamp in range(1, count + 1)]

    def test_what_it_waits_for_commits(self):
        desk, (one, two) = self.bound()
        with two:
            pass
        self.assertEqual(self.states(desk, 2), ["open", "open"])
        self.assertEqual(desk.holder_of("i1"), 2)
        one.commit()
        self.assertEqual(self.states(desk, 2), ["committed", "committed"])
        self.assertEqual(desk.versions("i1"), [(2, 1)])
        self.assertRaises(Finished, two.commit)

    def test_the_commit_is_done_before_the_next_step(self):
        desk, (one, two) = self.bound()
        three = desk.begin()
        with two:
            pass
        one.commit()
        self.assertEqual(three.read("i1"), 1)
        self.assertEqual(desk.state_of(2), "committed")
        self.assertRaises(Finished, two.abort)

    def test_what_it_waits_for_is_aborted(self):
        desk, (one, two) = self.bound()
        with two:
            pass
        one.abort()
        self.assertEqual(self.states(desk, 2), ["aborted", "aborted"])
        self.assertEqual(desk.versions("i1"), [(0, 0)])
        self.assertRaises(Finished, two.read, "i1")

    def test_what_it_waits_for_leaves_a_block_as_well(self):
        desk, (one, two) = self.bound()
        with one:
            with two:
                pass
            self.assertEqual(self.states(desk, 2), ["open", "open"])
        self.assertEqual(self.states(desk, 2), ["committed", "committed"])
        desk, (one, two) = self.bound()
        with self.assertRaises(Stop):
            with one:
                with two:
                    pass
                raise Stop
        self.assertEqual(self.states(desk, 2), ["aborted", "aborted"])

    def test_several_wait_one_for_another(self):
        for order in ([5, 4, 3, 2, 1, 0], [0, 1, 2, 3, 4, 5], [3, 5, 1, 4, 0, 2], [5, 0, 4, 1, 3, 2]):
            desk, askers = self.bound(7)
            for at in order:
                with askers[at + 1]:
                    pass
                self.assertEqual(self.states(desk, 7), ["open"] * 7)
            askers[0].commit()
            self.assertEqual(self.states(desk, 7), ["committed"] * 7)
            self.assertEqual([desk.versions(f"i{at}") for at in range(7)], [[(at + 1, at)] for at in range(7)])
            desk, askers = self.bound(7)
            for at in order:
                with askers[at + 1]:
                    pass
            askers[3].abort()
            self.assertEqual(self.states(desk, 7), ["open"] * 3 + ["aborted"] * 4)
            askers[0].commit()
            self.assertEqual(self.states(desk, 7), ["committed"] * 3 + ["aborted"] * 4)

    def test_one_that_does_not_wait_behind_one_that_does(self):
        desk, (one, two) = self.bound()
        with two:
            pass
        with desk.begin() as three:
            three.write("q", 3)
        self.assertEqual(self.states(desk, 3), ["open", "open", "committed"])

    def test_it_may_take_any_step_while_it_waits(self):
        desk, (one, two) = self.bound()
        with two:
            pass
        self.assertEqual(two.read("i1"), 1)
        self.assertIs(two.write("i1", 7), True)
        with self.assertRaises(MustWait) as caught:
            two.commit()
        self.assertEqual((caught.exception.stamp, caught.exception.holders), (2, (1,)))
        two.abort()
        one.commit()
        self.assertEqual(self.states(desk, 2), ["committed", "aborted"])

    def test_a_block_that_is_entered_again(self):
        desk, (one, two) = self.bound()
        with two:
            pass
        with self.assertRaises(Stop):
            with two:
                two.write("i1", 8)
                raise Stop
        self.assertEqual(self.states(desk, 2), ["open", "aborted"])
        desk, (one, two) = self.bound()
        for _ in range(3):
            with two:
                two.write("i1", 9)
        one.commit()
        self.assertEqual(self.states(desk, 2), ["committed", "committed"])
        self.assertEqual(desk.versions("i1"), [(2, 9)])

    def test_those_that_wait_in_a_circle_stay_open(self):
        desk = Desk(Book(AFTER, ends="after"))
        one, two = desk.begin(), desk.begin()
        one.write("x", 1)
        two.write("y", 2)
        two.read("x")
        one.read("y")
        for asker in (one, two):
            with asker:
                pass
        self.assertEqual(self.states(desk, 2), ["open", "open"])
        self.assertEqual(desk.begin().stamp.number, 3)
        two.abort()
        self.assertEqual(self.states(desk, 2), ["aborted", "aborted"])

    def test_a_wound_ends_what_waits(self):
        desk = Desk(Book({**AFTER, "write above": "wound"}, ends="after"))
        one, two, three = desk.begin(), desk.begin(), desk.begin()
        one.write("x", 1)
        two.read("x")
        two.write("y", 2)
        with two:
            pass
        self.assertIs(three.write("x", 3), True)
        self.assertEqual(self.states(desk, 3), ["aborted", "aborted", "open"])
        self.assertIsNone(desk.holder_of("y"))


class Performing(unittest.TestCase):
    def test_what_it_returns(self):
        desk = Desk(Book())
        requests = [("read", "x"), ("write", "x", 5), ("read", "x"), ("write", "y", -7), ("read", "y"), ("read", "z")]
        kept = list(requests)
        found = perform(desk, requests)
        self.assertIsInstance(found, tuple)
        self.assertEqual(found, (1, [0, 5, -7, 0]))
        self.assertIs(found[0].__class__, int)
        self.assertIsInstance(found[1], list)
        self.assertEqual(requests, kept)
        self.assertEqual(desk.state_of(1), "committed")
        self.assertEqual((desk.versions("x"), desk.versions("y")), ([(1, 5)], [(1, -7)]))
        self.assertEqual(perform(desk, [("read", "x")]), (2, [5]))
        self.assertEqual(perform(desk, [("write", "x", 10 ** 30)]), (3, []))
        self.assertEqual(perform(desk, []), (4, []))
        self.assertEqual([desk.state_of(stamp) for stamp in (2, 3, 4)], ["committed"] * 3)

    def test_a_skipped_write(self):
        desk = Desk(Book({"write above": "skip"}))
        one = desk.begin()
        one.write("x", 1)
        self.assertEqual(perform(desk, [("write", "x", 2), ("read", "y")]), (2, [0]))
        one.commit()
        self.assertEqual(desk.versions("x"), [(1, 1)])
        self.assertEqual(desk.state_of(2), "committed")

    def test_a_request_that_must_wait(self):
        desk = Desk(Book({"read above": "wait", "write above": "wait"}))
        one = desk.begin()
        one.write("x", 1)
        for stamp, request in ((2, ("read", "x")), (3, ("write", "x", 5))):
            requests = [("write", "y", 4), request, ("write", "z", 4)]
            kept = list(requests)
            with self.assertRaises(MustWait) as caught:
                perform(desk, requests)
            self.assertEqual((caught.exception.stamp, caught.exception.holders), (stamp, (1,)))
            self.assertEqual(requests, kept)
            self.assertEqual(desk.state_of(stamp), "aborted")
            self.assertIsNone(desk.holder_of("y"))
            self.assertEqual(desk.versions("y"), [(0, 0)])
        self.assertEqual(desk.state_of(1), "open")

    def test_a_request_that_breaks_it_off(self):
        desk = Desk(Book())
        one = desk.begin()
        one.write("x", 1)
        with self.assertRaises(BrokenOff) as caught:
            perform(desk, [("write", "y", 4), ("read", "x"), ("read", "y")])
        self.assertEqual(caught.exception.stamp, 2)
        self.assertIs(caught.exception.__cause__.__class__, TooLate)
        self.assertEqual(caught.exception.__cause__.entry, "read above")
        self.assertEqual(desk.state_of(2), "aborted")
        self.assertEqual(perform(desk, [("read", "y")]), (3, [0]))

    def test_a_commit_that_must_wait(self):
        for end, states in (("commit", ["committed"] * 3), ("abort", ["aborted"] * 3)):
            desk = Desk(Book(AFTER, ends="after"))
            one = desk.begin()
            one.write("x", 1)
            self.assertEqual(perform(desk, [("read", "x"), ("write", "y", 2)]), (2, [1]))
            self.assertEqual(perform(desk, [("read", "y"), ("write", "z", 3)]), (3, [2]))
            self.assertEqual([desk.state_of(stamp) for stamp in (1, 2, 3)], ["open"] * 3)
            if end == "commit":
                one.commit()
            else:
                one.abort()
            self.assertEqual([desk.state_of(stamp) for stamp in (1, 2, 3)], states)
            self.assertEqual(desk.versions("z"), [(3, 3)] if end == "commit" else [(0, 0)])

    def test_it_follows_given_stamps(self):
        desk = Desk(Book())
        desk.begin(stamp=40)
        self.assertEqual(perform(desk, [("write", "x", 1)]), (41, []))
        self.assertEqual(desk.versions("x"), [(41, 1)])


class AgainstTheModel(unittest.TestCase):
    """Blocks are left at random; the model asks for what they ask for as soon as it can."""

    def settle(self, model, left):
        again = True
        while again:
            again = False
            for step in list(left):
                if model.step(step, None)[0] != "wait":
                    left.remove(step)
                    again = True

    def leave(self, asker, word):
        try:
            with asker:
                if word == "abort":
                    raise Stop
        except Stop:
            pass

    def step(self, rng, askers, model, number, left):
        asker = rng.choice(askers)
        stamp, item = asker.stamp.number, rng.choice("xyz")
        what = rng.choice(("read", "read", "write", "write", "leave", "leave", "stop"))
        if what in ("leave", "stop"):
            word = "commit" if what == "leave" else "abort"
            self.leave(asker, word)
            left.append((word, stamp))
            self.settle(model, left)
            return
        outcome = model.step((what, stamp, item), number)
        try:
            got = asker.read(item) if what == "read" else asker.write(item, number)
        except (Finished, MustWait, BrokenOff) as error:
            words = {Finished: "void", MustWait: "wait", BrokenOff: "abort"}
            self.assertEqual(outcome[0], words[error.__class__])
        else:
            self.assertEqual(got, outcome[2] if what == "read" else outcome[0] == "put")
        self.settle(model, left)

    def test_random_blocks(self):
        rng = random.Random(41)
        for _ in range(400):
            book = random_book(rng)
            desk, model, left = Desk(book), Model(book), []
            askers = [desk.begin() for _ in range(6)]
            for number in range(1, 30):
                self.step(rng, askers, model, number, left)
                if rng.random() < 0.5:
                    continue
                for asker in askers:
                    stamp = asker.stamp.number
                    self.assertEqual(desk.state_of(stamp), model.ended.get(stamp, "open"))
                for item in "xyz":
                    self.assertEqual(desk.versions(item), model.kept(item))
                    self.assertEqual(desk.holder_of(item), model.holder(item))
                    self.assertEqual(desk.reader_of(item), model.reader.get(item, 0))


if __name__ == "__main__":
    unittest.main()

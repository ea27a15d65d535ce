"""Runs of several steps: values, reader stamps, bonds, falls, waits, several items."""

import unittest

from stamprules.runs import play, steps_of
from tests.helpers import COMMIT, PUT, VOID, aborted, book_of, contents, read

SKIPS = {"write under": "skip", "write below": "skip", "write above": "skip", "write late": "skip",
         "write under passed": "skip", "write below passed": "skip", "write above passed": "skip"}
OPENS = {"read under": "open", "read below": "open", "read above": "open"}


def skip(entry):
    return ("skip", (entry,), None, ())


def wait(entry, *holders):
    return ("wait", (entry,) if entry else (), holders, ())


def abort(*fallen):
    return ("abort", (), None, fallen)


class Checks(unittest.TestCase):
    def check(self, book, run, *expected):
        steps = steps_of(run) if isinstance(run, str) else run
        before = list(steps)
        self.assertEqual(play(book, steps), list(expected))
        self.assertEqual(steps, before)


class Playing(Checks):
    def test_answers_that_no_book_changes(self):
        self.check(book_of(), "r1 w1 r1 w1 r1 c1 r2 w2 r2", read(0), PUT, read(2), PUT, read(4), COMMIT, read(4),
                   PUT, read(8))

    def test_kinds_of_the_values(self):
        outcomes = play(book_of({"write below": "wound", "read above": "wait"}, "after"),
                        steps_of("w2 w1 r3 c2 a1 r3 c3"))
        self.assertIsInstance(outcomes, list)
        for outcome in outcomes:
            self.assertIsInstance(outcome, tuple)
            self.assertEqual(len(outcome), 4)
            self.assertEqual([isinstance(part, tuple) for part in (outcome[1], outcome[3])], [True, True])
        self.assertEqual(outcomes, [PUT, ("put", ("write below",), None, (2,)), wait("read above", 1), VOID,
                                    abort(1), read(0), COMMIT])

    def test_book_and_run_stay_as_they_are(self):
        book = book_of({"write below": "wound"}, "after", 3)
        run = steps_of("w2 w1 c1 r3 c2 a3")
        first = play(book, run)
        self.assertEqual(contents(book), contents(book_of({"write below": "wound"}, "after", 3)))
        self.assertEqual(run, steps_of("w2 w1 c1 r3 c2 a3"))
        self.assertEqual(play(book, run), first)

    def test_void_steps(self):
        self.check(book_of(), "w1 c1 r1 w1 c1 a1 r2 a2 r2 w2 c2 a2 r3",
                   PUT, COMMIT, VOID, VOID, VOID, VOID, read(1), abort(2), VOID, VOID, VOID, VOID, read(1))
        self.check(book_of({"write below": "wound"}), "w2 w1 w2 r2 c2 a2 c1 r3",
                   PUT, ("put", ("write below",), None, (2,)), VOID, VOID, VOID, VOID, COMMIT, read(2))
        self.check(book_of(), "w2 r1 w1 c1 c2", PUT, aborted("read below", 1), VOID, VOID, COMMIT)

    def test_a_void_read_leaves_the_reader_stamp(self):
        self.check(book_of(), "a3 r3 w2", abort(3), VOID, PUT)

    def test_a_transaction_without_requests(self):
        self.check(book_of(), "c1 c1 a2 a2", COMMIT, VOID, abort(2), VOID)

    def test_open_values_go_with_an_abort(self):
        self.check(book_of(), "w1 a1 r2 w2", PUT, abort(1), read(0), PUT)
        self.check(book_of(), "w1 c1 w2 a2 r3", PUT, COMMIT, PUT, abort(2), read(1))

    def test_great_stamps(self):
        most, less = 10 ** 30, 10 ** 30 - 1
        self.check(book_of({"read below": "last", "write below": "wound"}), f"w{most} r{less} w{less} c{most} c{less}",
                   PUT, read(0, "read below"), ("put", ("write below",), None, (most,)), VOID, COMMIT)


class ReaderStamps(Checks):
    def test_each_granted_read_counts(self):
        self.check(book_of(), "r3 w2", read(0), aborted("write free passed", 2))
        self.check(book_of({"read above": "open"}), "w1 r3 w1", PUT, read(1, "read above"),
                   aborted("write own passed", 1))
        self.check(book_of({"read late": "old"}, keep=2), "w1 c1 w4 c4 r3 w2", PUT, COMMIT, PUT, COMMIT,
                   read(1, "read late"), aborted("write late passed", 2))
        self.check(book_of(), "w2 r2 w1", PUT, read(1), aborted("write below passed", 1))
        self.check(book_of(), "w2 r2 c2 w1", PUT, read(1), COMMIT, aborted("write late passed", 1))

    def test_reads_that_are_not_granted_do_not_count(self):
        self.check(book_of({"read above": "wait"}), "w1 r3 w1 a1 w2", PUT, wait("read above", 1), PUT, abort(1), PUT)
        self.check(book_of(), "w1 r3 w1", PUT, aborted("read above", 3), PUT)
        self.check(book_of({"read late": "old", "write late": "skip"}), "w5 c5 r3 w2", PUT, COMMIT,
                   aborted("read late", 3), skip("write late"))

    def test_it_stays_with_a_later_smaller_reader_and_with_an_abort(self):
        self.check(book_of(), "r3 r1 w2", read(0), read(0), aborted("write free passed", 2))
        self.check(book_of(), "r3 a3 w2", read(0), abort(3), aborted("write free passed", 2))
        self.check(book_of(OPENS, "after"), "w1 r3 a1 w2", PUT, read(1, "read above"), abort(1, 3),
                   aborted("write free passed", 2))

    def test_the_own_stamp_and_smaller_ones_do_not_pass(self):
        self.check(book_of(), "r2 w2 w2", read(0), PUT, PUT)
        self.check(book_of(), "r1 w2", read(0), PUT)
        self.check(book_of(), [("read", 3, "y"), ("write", 2, "x"), ("write", 2, "y")], read(0), PUT,
                   aborted("write free passed", 2))


class Waits(Checks):
    def test_nothing_changes_and_any_step_may_follow(self):
        book = book_of({"write below": "wait", "read below": "last"})
        self.check(book, "w2 w1 w1 r1 c2 w1", PUT, wait("write below", 2), wait("write below", 2),
                   read(0, "read below"), COMMIT, aborted("write late", 1))
        self.check(book, "w2 w1 c1 w1", PUT, wait("write below", 2), COMMIT, VOID)
        self.check(book, "w2 w1 a1 r2", PUT, wait("write below", 2), abort(1), read(1))
        self.check(book, "w2 w1 a2 w1", PUT, wait("write below", 2), abort(2), PUT)

    def test_a_wait_binds_nobody(self):
        book = book_of({"write below": "wait", "read above": "wait"}, "after")
        self.check(book, "w2 w1 r3 c1 c3 a2", PUT, wait("write below", 2), wait("read above", 2), COMMIT, COMMIT,
                   abort(2))


class Bonds(Checks):
    def test_an_open_read_binds_with_after(self):
        for text, entry, value, start in (("w2 r1", "read below", 1, [PUT]), ("w1 r2", "read above", 1, [PUT]),
                                          ("w2 c2 w3 r1", "read under", 3, [PUT, COMMIT, PUT])):
            asker, holder = text[-1], text[text.rindex("w") + 1]
            with self.subTest(text):
                self.check(book_of(OPENS, "after"), f"{text} c{asker} c{holder} c{asker}", *start, read(value, entry),
                           wait(None, int(holder)), COMMIT, COMMIT)
                self.check(book_of(OPENS, "now"), f"{text} c{asker} c{holder} c{asker}", *start, read(value, entry),
                           COMMIT, COMMIT, VOID)
                both = sorted([int(asker), int(holder)])
                self.check(book_of(OPENS, "after"), f"{text} a{holder} c{asker}", *start, read(value, entry),
                           abort(*both), VOID)
                self.check(book_of(OPENS, "now"), f"{text} a{holder} c{asker}", *start, read(value, entry),
                           abort(int(holder)), COMMIT)

    def test_a_skip_binds_below_and_above(self):
        for text, entry, start in (("w2 w1", "write below", [PUT]), ("w1 w2", "write above", [PUT]),
                                   ("r2 w2 w1", "write below passed", [read(0), PUT]),
                                   ("w1 r3 w2", "write above passed", [PUT, read(0, "read above")])):
            asker, holder = text[-1], text[text.index("w") + 1]
            book = {**SKIPS, "read above": "last"}
            with self.subTest(text):
                self.check(book_of(book, "after"), f"{text} c{asker} c{holder} c{asker}", *start, skip(entry),
                           wait(None, int(holder)), COMMIT, COMMIT)
                self.check(book_of(book, "now"), f"{text} c{asker} c{holder}", *start, skip(entry), COMMIT, COMMIT)
                both = sorted([int(asker), int(holder)])
                self.check(book_of(book, "after"), f"{text} a{holder}", *start, skip(entry), abort(*both))
                self.check(book_of(book, "now"), f"{text} a{holder}", *start, skip(entry), abort(int(holder)))

    def test_a_skip_elsewhere_binds_nobody(self):
        book = book_of({**SKIPS, "write late passed": "skip"}, "after")
        self.check(book, "w2 c2 w3 w1 c1 a3", PUT, COMMIT, PUT, skip("write under"), COMMIT, abort(3))
        self.check(book, "r2 w2 c2 w3 w1 c1", read(0), PUT, COMMIT, PUT, skip("write under passed"), COMMIT)
        self.check(book, "w2 c2 w1 c1", PUT, COMMIT, skip("write late"), COMMIT)
        self.check(book, "r2 w2 c2 w1 c1", read(0), PUT, COMMIT, skip("write late passed"), COMMIT)

    def test_other_answers_bind_nobody(self):
        lasts = book_of({"read under": "last", "read below": "last", "read above": "last"}, "after")
        self.check(lasts, "w2 r1 r3 c1 c3", PUT, read(0, "read below"), read(0, "read above"), COMMIT, COMMIT)
        self.check(lasts, "w2 c2 w3 r1 c1", PUT, COMMIT, PUT, read(1, "read under"), COMMIT)
        self.check(book_of({"read under": "old"}, "after", 2), "w2 c2 w3 r1 c1", PUT, COMMIT, PUT,
                   read(0, "read under"), COMMIT)
        self.check(lasts, "w1 r1 w1 c1", PUT, read(1), PUT, COMMIT)

    def test_a_skip_behind_wound_binds_nobody(self):
        book = book_of({"write under": "wound", "write late": "skip"}, "after")
        self.check(book, "w2 c2 w3 w1 c1 c3", PUT, COMMIT, PUT, ("skip", ("write under", "write late"), None, (3,)),
                   COMMIT, VOID)

    def test_a_commit_waits_for_all_that_are_open(self):
        run = [("write", 9, "x"), ("write", 4, "y"), ("write", 6, "z"),
               ("read", 5, "x"), ("read", 5, "x"), ("read", 5, "z"), ("read", 5, "y"),
               ("commit", 5), ("commit", 6), ("commit", 5), ("commit", 4), ("commit", 5), ("commit", 9), ("commit", 5)]
        self.check(book_of(OPENS, "after"), run, PUT, PUT, PUT,
                   read(1, "read below"), read(1, "read below"), read(3, "read below"), read(2, "read above"),
                   wait(None, 4, 6, 9), COMMIT, wait(None, 4, 9), COMMIT, wait(None, 9), COMMIT, COMMIT)

    def test_a_commit_that_waits_leaves_the_open_values(self):
        run = [("write", 2, "x"), ("read", 1, "x"), ("write", 1, "y"), ("commit", 1), ("read", 1, "y"),
               ("read", 3, "y"), ("commit", 2), ("commit", 1), ("read", 3, "y")]
        self.check(book_of(OPENS, "after"), run, PUT, read(1, "read below"), PUT, wait(None, 2), read(3),
                   read(3, "read above"), COMMIT, COMMIT, read(3))

    def test_two_that_are_bound_to_each_other(self):
        run = [("write", 1, "x"), ("write", 2, "y"), ("read", 2, "x"), ("read", 1, "y"), ("commit", 1), ("commit", 2)]
        start = [PUT, PUT, read(1, "read above"), read(2, "read below"), wait(None, 2), wait(None, 1)]
        self.check(book_of(OPENS, "after"), run, *start)
        self.check(book_of(OPENS, "after"), [*run, ("abort", 1), ("commit", 2)], *start, abort(1, 2), VOID)
        self.check(book_of(OPENS, "after"), [*run, ("abort", 2), ("commit", 1)], *start, abort(1, 2), VOID)


class Falls(Checks):
    CHAIN = [("write", 2, "a"), ("read", 5, "a"), ("write", 5, "b"), ("read", 1, "b"), ("write", 1, "c"),
             ("read", 9, "c")]
    READ = [PUT, read(1, "read above"), PUT, read(3, "read below"), PUT, read(5, "read above")]

    def test_a_chain(self):
        self.check(book_of(OPENS, "after"), [*self.CHAIN, ("abort", 2)], *self.READ, abort(1, 2, 5, 9))
        self.check(book_of(OPENS, "after"), [*self.CHAIN, ("abort", 5), ("commit", 2)], *self.READ, abort(1, 5, 9),
                   COMMIT)
        self.check(book_of(OPENS, "after"), [*self.CHAIN, ("abort", 1)], *self.READ, abort(1, 9))
        self.check(book_of(OPENS, "after"), [*self.CHAIN, ("abort", 9)], *self.READ, abort(9))
        self.check(book_of(OPENS, "now"), [*self.CHAIN, ("abort", 2), ("commit", 9)], *self.READ, abort(2), COMMIT)

    def test_all_open_values_go(self):
        run = [*self.CHAIN, ("abort", 2), ("read", 10, "a"), ("read", 10, "b"), ("read", 10, "c")]
        self.check(book_of(OPENS, "after"), run, *self.READ, abort(1, 2, 5, 9), read(0), read(0), read(0))
        run = [*self.CHAIN, ("abort", 1), ("read", 10, "a"), ("read", 10, "b"), ("read", 10, "c")]
        self.check(book_of(OPENS, "after"), run, *self.READ, abort(1, 9), read(1, "read above"),
                   read(3, "read above"), read(0))

    def test_a_bond_ends_with_the_commit_of_the_holder(self):
        run = [("write", 2, "x"), ("read", 3, "x"), ("commit", 2), ("abort", 2), ("write", 3, "y"), ("commit", 3)]
        self.check(book_of(OPENS, "after"), run, PUT, read(1, "read above"), COMMIT, VOID, PUT, COMMIT)

    def test_those_that_ended_do_not_fall_again(self):
        run = "w2 r3 r4 a3 a2"
        self.check(book_of(OPENS, "after"), run, PUT, read(1, "read above"), read(1, "read above"), abort(3),
                   abort(2, 4))

    def test_an_answer_that_aborts_the_asker_takes_others_along(self):
        run = [("write", 1, "x"), ("read", 4, "x"), ("write", 3, "y"), ("read", 1, "y"), ("commit", 3), ("read", 4, "y")]
        book = book_of({"read above": "open"}, "after")
        self.check(book, run, PUT, read(1, "read above"), PUT, aborted("read below", 1, 4), COMMIT, VOID)
        run = [("write", 5, "x"), ("read", 7, "x"), ("write", 6, "y"), ("commit", 6), ("read", 5, "y")]
        book = book_of({"read above": "open", "read late": "old"}, "after")
        self.check(book, run, PUT, read(1, "read above"), PUT, COMMIT, aborted("read late", 5, 7))

    def test_wound_takes_those_along_that_are_bound_to_the_holder(self):
        book = book_of({"read above": "open", "write below": "wound"}, "after")
        run = [("write", 3, "y"), ("write", 3, "z"), ("read", 4, "z"), ("write", 1, "y"), ("commit", 1), ("read", 5, "y")]
        self.check(book, run, PUT, PUT, read(2, "read above"), ("put", ("write below",), None, (3, 4)), COMMIT, read(4))
        now = book_of({"read above": "open", "write below": "wound"}, "now")
        self.check(now, [*run, ("commit", 4)], PUT, PUT, read(2, "read above"), ("put", ("write below",), None, (3,)),
                   COMMIT, read(4), COMMIT)

    def test_wound_of_a_holder_that_the_asker_is_bound_to(self):
        book = book_of({"read below": "open", "write below": "wound"}, "after")
        self.check(book, "w2 r1 w1 c1 r3", PUT, read(1, "read below"), aborted("write below", 1, 2), VOID, read(0))
        book = book_of({"read below": "open", "write below": "wound"}, "now")
        self.check(book, "w2 r1 w1 c1 r3", PUT, read(1, "read below"), ("put", ("write below",), None, (2,)),
                   COMMIT, read(3))

    def test_wound_when_the_asker_is_bound_by_way_of_another(self):
        book = book_of({"read above": "open", "write above": "wound"}, "after")
        run = [("write", 1, "x"), ("read", 2, "x"), ("write", 2, "y"), ("read", 3, "y"), ("write", 3, "x"),
               ("read", 4, "x"), ("read", 4, "y")]
        self.check(book, run, PUT, read(1, "read above"), PUT, read(3, "read above"),
                   aborted("write above", 1, 2, 3), read(0), read(0))

    def test_wound_and_then_abort_with_others(self):
        book = book_of({"read above": "open", "read below": "open", "write under": "wound"}, "after")
        run = [("write", 3, "x"), ("commit", 3), ("write", 6, "x"), ("write", 6, "z"), ("read", 8, "z"),
               ("write", 2, "y"), ("read", 1, "y"), ("write", 2, "x"), ("read", 9, "y"), ("read", 9, "x")]
        self.check(book, run, PUT, COMMIT, PUT, PUT, read(4, "read above"), PUT, read(6, "read below"),
                   ("abort", ("write under", "write late"), None, (1, 2, 6, 8)), read(0), read(1))

    def test_wound_removes_the_other_open_values_of_the_holder(self):
        book = book_of({"write below": "wound"})
        run = [("write", 2, "x"), ("write", 2, "y"), ("write", 1, "x"), ("read", 3, "y"), ("write", 1, "y")]
        self.check(book, run, PUT, PUT, ("put", ("write below",), None, (2,)), read(0),
                   aborted("write free passed", 1))


class SeveralItems(Checks):
    def test_items_do_not_meet(self):
        run = [("write", 2, "x"), ("write", 1, "y"), ("read", 2, "y"), ("read", 1, "x"), ("commit", 2)]
        book = book_of({"read above": "last", "read below": "wait"})
        self.check(book, run, PUT, PUT, read(0, "read above"), wait("read below", 2), COMMIT)

    def test_a_commit_settles_all_items(self):
        run = [("write", 2, "x"), ("write", 2, "y"), ("write", 2, "x"), ("write", 3, "z"), ("commit", 2),
               ("read", 4, "x"), ("read", 4, "y"), ("read", 4, "z"), ("read", 1, "y")]
        self.check(book_of(), run, PUT, PUT, PUT, PUT, COMMIT, read(3), read(2), aborted("read above", 4),
                   aborted("read late", 1))

    def test_versions_are_kept_per_item(self):
        run = [("write", 2, "x"), ("commit", 2), ("write", 3, "y"), ("commit", 3), ("write", 4, "y"), ("commit", 4),
               ("read", 1, "x"), ("read", 1, "y")]
        self.check(book_of({"read late": "old"}, keep=2), run, PUT, COMMIT, PUT, COMMIT, PUT, COMMIT,
                   read(0, "read late"), aborted("read late", 1))
        self.check(book_of({"read late": "old"}, keep=3), run, PUT, COMMIT, PUT, COMMIT, PUT, COMMIT,
                   read(0, "read late"), read(0, "read late"))

    def test_only_the_last_put_becomes_a_version(self):
        self.check(book_of({"read late": "old"}, keep=2), "w2 w2 w2 c2 r1", PUT, PUT, PUT, COMMIT, read(0, "read late"))

    def test_a_long_run(self):
        run = []
        for stamp in range(1, 134):
            run += [("read", stamp, f"i{stamp}"), ("write", stamp, f"i{stamp + 1}"), ("read", stamp, f"i{stamp}")]
        outcomes = play(book_of({"read above": "open"}, "after"), [*run, ("abort", 1)])
        self.assertEqual(outcomes[-1], abort(*range(1, 134)))
        self.assertEqual(outcomes[3], read(2, "read above"))


if __name__ == "__main__":
    unittest.main()

"""Questions about books; those that ask for a run get a shortest one, or None."""

from stamprules.books import MOST_KEPT, Book, answers_at, check_answer, level_of
from stamprules.facts import abort_runs, eldest_runs, fault_runs, parting_run, ring_runs, way_runs
from stamprules.runs import fault, play, traced
from stamprules.states import item_of


def way(book, entry):
    """A shortest run whose last step meets an entry."""
    # It is called for its error alone.
    answers_at(entry)
    for run in way_runs(entry):
        if entry in play(book, run)[-1][1]:
            return run
    return None


def erring(book):
    """A shortest run that has a fault."""
    return first_that(has_fault, book, fault_runs())


def dirty(book):
    """A shortest run that reads the open value of another transaction, which falls later."""
    return first_that(has_dirty_read, book, abort_runs())


def cascade(book):
    """A shortest run in which somebody falls who neither asks nor holds the item."""
    return first_that(has_cascade, book, abort_runs())


def ring(book):
    """A shortest run that leaves a ring of transactions behind that wait for each other."""
    return first_that(has_ring, book, ring_runs())


def eldest(book):
    """A shortest run in which the eldest falls, and not by its own abort step."""
    return first_that(has_fall_of_eldest, book, eldest_runs())


def parting(book, other):
    """A shortest run that `book` lets by and `other` does not."""
    return parting_run(book, other)


def first_that(shows, book, runs):
    """The first one of these runs that shows something, or None."""
    for run in runs:
        if shows(book, run):
            return run
    return None


def has_fault(book, run):
    """Whether a run has a fault."""
    return fault(book, run) is not None


def has_dirty_read(book, run):
    """Whether a read returns the open value of another transaction, which a later step aborts."""
    lenders = []
    for step, (before, outcome, _) in zip(run, traced(book, run)):
        word, _, value, fallen = outcome
        if any([stamp in lenders for stamp in fallen]):
            return True
        if word != "read":
            continue
        item = item_of(before, step[2])
        # Each write of a run writes another value, so the value tells where it is from.
        if item.holder not in (None, step[1]) and value == item.value:
            lenders.append(item.holder)
    return False


def has_cascade(book, run):
    """Whether a step aborts somebody who neither takes it nor holds its item before it."""
    for step, (before, outcome, _) in zip(run, traced(book, run)):
        concerned = [step[1]]
        if len(step) == 3:
            concerned.append(item_of(before, step[2]).holder)
        if any([stamp not in concerned for stamp in outcome[3]]):
            return True
    return False


def has_fall_of_eldest(book, run):
    """Whether a step aborts the eldest and is not its own abort step."""
    for step, (before, outcome, _) in zip(run, traced(book, run)):
        fallen = outcome[3]
        if not fallen or step == ("abort", fallen[0]):
            continue
        if all([fallen[0] <= other[1] for other in run if other[1] not in before.over]):
            return True
    return False


def has_ring(book, run):
    """Whether there is a ring after the last step of a run."""
    waits = waiting(book, run)
    caught = list(waits)
    while True:
        # A ring is what is left when all are taken out who wait for none that is left.
        left = [stamp for stamp in caught if any([holder in caught for holder in waits[stamp]])]
        if len(left) == len(caught):
            return len(left) > 0
        caught = left


def waiting(book, run):
    """A dict from each stamp that waits after the last step of a run to those waited for."""
    waits = {}
    over = {}
    for step, (_, outcome, after) in zip(run, traced(book, run)):
        waits[step[1]] = outcome[2] if outcome[0] == "wait" else ()
        over = after.over
    return {stamp: holders for stamp, holders in waits.items() if holders and stamp not in over}


def least_keep(book, runs):
    """The least `keep` with which a book lets all the runs by, or None."""
    least = 1
    for run in runs:
        # More versions never do harm, so what is too few for one run is not tried again.
        while run not in with_keep(book, least):
            least += 1
            if least > MOST_KEPT:
                return None
    return least


def with_keep(book, keep):
    """A copy of a book that keeps this number of versions."""
    return Book({entry: book[entry] for entry in book}, ends=book.ends, keep=keep)


def with_answer(book, entry, answer):
    """A copy of a book with this answer at this entry."""
    changed = book.copy()
    changed[entry] = answer
    return changed


def rounds(book, count):
    """Yield the steps of a run in which the eldest falls `count` times, and all end."""
    shown = eldest(book)
    if shown is None:
        return
    steps = [*shown, *last_steps(book, shown)]
    width = max([int(step[1]) for step in steps])
    # Each round has greater stamps and an item of its own, so no earlier one matters to it.
    for at in range(count):
        for step in steps:
            yield moved(step, at * width, f"x{at}")


def last_steps(book, run):
    """Abort steps that leave no transaction of a run open."""
    over = traced(book, run)[-1][2].over
    stamps = {step[1]: True for step in run}
    return [("abort", stamp) for stamp in stamps if stamp not in over]


def moved(step, by, name):
    """The step with a stamp that is greater by so much, and on the item of this name."""
    if len(step) == 3:
        return (step[0], step[1] + by, name)
    return (step[0], step[1] + by)


def weakest(book, frame):
    """The books of a frame without an erring run, all weaker ones of which have one."""
    sound = [each for each in books_of(book, frame) if erring(each) is None]
    return [each for each in sound if not any([is_weaker(other, each) for other in sound])]


def books_of(book, frame):
    """The books of a frame: copies with one of the listed answers at each of its entries."""
    for entry, answers in frame.items():
        check_row(entry, answers)
    books = [book.copy()]
    for entry, answers in frame.items():
        books = [with_answer(each, entry, answer) for each in books for answer in answers]
    return books


def check_row(entry, answers):
    """Raise BadEntry or BadAnswer for the first bad part of a frame's row."""
    answers_at(entry)
    for answer in answers:
        check_answer(entry, answer)


def is_weaker(book, other):
    """Whether two books differ, and the first one has the higher level wherever they do."""
    apart = [entry for entry in book if book[entry] != other[entry]]
    return len(apart) > 0 and all([level_of(book[entry]) > level_of(other[entry]) for entry in apart])


def blame(book):
    """The triples (entry, answer, run) of all single answers of a higher level."""
    triples = []
    for entry in book:
        level = level_of(book[entry])
        for answer in answers_at(entry):
            if level_of(answer) > level:
                triples.append((entry, answer, erring(with_answer(book, entry, answer))))
    return triples

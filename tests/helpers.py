"""What several test files need: books, outcomes, and repeatable random ones."""

from stamprules.books import ENTRIES, Book, answers_at

LEVELS = {"last": 2, "old": 2, "open": 2, "put": 2, "skip": 2, "wait": 1, "wound": 0, "abort": 0}


def book_of(answers=None, ends="now", keep=1):
    """A book with these answers and abort elsewhere."""
    return Book(answers, ends=ends, keep=keep)


def contents(book):
    """All that a book says."""
    return {entry: book[entry] for entry in ENTRIES}, book.ends, book.keep


def answered(*wanted, ends="now", keep=1):
    """A book with the first of the wanted answers that may stand at an entry, else abort."""
    answers = {}
    for entry in ENTRIES:
        fitting = [answer for answer in wanted if answer in answers_at(entry)]
        answers[entry] = fitting[0] if fitting else "abort"
    return Book(answers, ends=ends, keep=keep)


def random_book(rng, keeps=(1, 1, 2, 3, 20)):
    """A book of one of several characters: any answers, mostly granting, mostly refusing ones."""
    share = rng.choice((None, 0.5, 0.9))
    answers = {}
    for entry in ENTRIES:
        choice = answers_at(entry)
        if share is not None:
            high = [answer for answer in choice if LEVELS[answer] == 2]
            choice = high if rng.random() < share else choice
        answers[entry] = rng.choice(choice)
    return Book(answers, ends=rng.choice(("now", "after")), keep=rng.choice(keeps))


def random_run(rng, length, stamps, items):
    """A run of this length with these stamps and items; reads and writes are most frequent."""
    run = []
    for _ in range(length):
        word, stamp = rng.choice(("read", "write") * 4 + ("commit", "abort")), rng.choice(stamps)
        run.append((word, stamp, rng.choice(items)) if word in ("read", "write") else (word, stamp))
    return run


def aborted(entry, *fallen):
    """The outcome of a request that meets an entry and aborts its asker."""
    return ("abort", (entry,), None, fallen)


PUT = ("put", (), None, ())
COMMIT = ("commit", (), None, ())
VOID = ("void", (), None, ())


def read(value, *met):
    """The outcome of a granted read."""
    return ("read", met, value, ())

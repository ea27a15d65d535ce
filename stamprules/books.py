"""Books: which answer stands at which entry, and how bonds and versions are kept."""

from stamprules.errors import BadAnswer, BadEntry, BadSetting
from stamprules.facts import parting_run
from stamprules.runs import lets_by
from stamprules.stamps import place
from stamprules.states import entry_met, fixed_answer

ENTRIES = (
    "read late",
    "read under",
    "read below",
    "read above",
    "write late",
    "write under",
    "write below",
    "write above",
    "write free passed",
    "write own passed",
    "write late passed",
    "write under passed",
    "write below passed",
    "write above passed",
)
ANSWERS = {
    "read late": ("last", "old", "abort"),
    "read under": ("last", "old", "open", "wait", "abort"),
    "read below": ("last", "open", "wait", "abort"),
    "read above": ("last", "open", "wait", "abort"),
    "write late": ("skip", "abort"),
    "write under": ("skip", "wait", "wound", "abort"),
    "write below": ("skip", "wait", "wound", "abort"),
    "write above": ("skip", "wait", "wound", "abort"),
    "write free passed": ("put", "abort"),
    "write own passed": ("put", "abort"),
    "write late passed": ("skip", "abort"),
    "write under passed": ("skip", "wait", "wound", "abort"),
    "write below passed": ("skip", "wait", "wound", "abort"),
    "write above passed": ("skip", "wait", "wound", "abort"),
}
LEVELS = {"last": 2, "old": 2, "open": 2, "put": 2, "skip": 2, "wait": 1, "wound": 0, "abort": 0}
MOST_KEPT = 20


def answers_at(entry):
    """The tuple of the answers that may stand at an entry."""
    # The tuple is searched, since a value that is no entry may not fit as a key of a dict.
    if entry not in ENTRIES:
        raise BadEntry(entry)
    return ANSWERS[entry]


def level_of(answer):
    """How far an answer goes: 2 grants the request, 1 makes it wait, 0 ends somebody."""
    return LEVELS[answer]


def check_answer(entry, answer):
    """Raise BadEntry, or else BadAnswer, if this answer may not stand there."""
    if answer not in answers_at(entry):
        raise BadAnswer(entry, answer)


def is_keep(keep):
    """Whether a value is a number of versions that a book may keep."""
    # Python counts True and False among the integers.
    if isinstance(keep, bool) or not isinstance(keep, int):
        return False
    return 1 <= keep <= MOST_KEPT


def met_answer(one, two):
    """What stands at an entry where one book with this answer meets another one with that."""
    if one == two or level_of(one) < level_of(two):
        return one
    return two if level_of(two) < level_of(one) else "abort"


class Book:
    """A book: an answer at each entry, `ends` and `keep`."""

    def __init__(self, answers=None, *, ends="now", keep=1):
        if ends not in ("now", "after"):
            raise BadSetting(ends)
        if not is_keep(keep):
            raise BadSetting(keep)
        self._ends = ends
        self._keep = keep
        self._answers = {entry: "abort" for entry in ENTRIES}
        given = {} if answers is None else answers
        for entry, answer in given.items():
            check_answer(entry, answer)
            self._answers[entry] = answer

    @property
    def ends(self):
        """When somebody becomes bound: "now" for never, or "after"."""
        return self._ends

    @property
    def keep(self):
        """How many committed versions an item keeps."""
        return self._keep

    def copy(self):
        """An independent book with the same answers and settings."""
        return Book(self._answers, ends=self._ends, keep=self._keep)

    def __getitem__(self, entry):
        if entry not in ENTRIES:
            raise BadEntry(entry)
        return self._answers[entry]

    def __setitem__(self, entry, answer):
        check_answer(entry, answer)
        self._answers[entry] = answer

    def __iter__(self):
        return iter(self._answers)

    def __call__(self, kind, asker, last, holder=None, reader=None):
        """The answer to a request, "read" or "write", with these Stamps at its item."""
        spot = place(asker, last, holder)
        passed = reader is not None and asker < reader
        entry = entry_met(kind, spot, passed)
        if entry is None:
            return fixed_answer(kind, spot)
        return self._answers[entry]

    def __contains__(self, run):
        return lets_by(self, run)

    def __le__(self, other):
        if not isinstance(other, Book):
            return NotImplemented
        return parting_run(self, other) is None

    def __lt__(self, other):
        if not isinstance(other, Book):
            return NotImplemented
        return self <= other and not other <= self

    def __iand__(self, other):
        if not isinstance(other, Book):
            return NotImplemented
        for entry in ENTRIES:
            self._answers[entry] = met_answer(self._answers[entry], other[entry])
        if other.ends == "after":
            self._ends = "after"
        self._keep = min(int(self._keep), int(other.keep))
        return self

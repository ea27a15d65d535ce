"""The errors of the program, each with what it is about in its fields.

No message shows a value that was passed in: it may be of any kind and size.
"""


class StampError(ValueError):
    """The base class of all errors of the program."""


class BadStamp(StampError):
    """A value that is no stamp, or not one that may stand here."""

    def __init__(self, given):
        super().__init__("not a stamp that may stand here")
        self.given = given


class BadEntry(StampError):
    """A value that is no entry of a book."""

    def __init__(self, entry):
        super().__init__("not an entry of a book")
        self.entry = entry


class BadAnswer(StampError):
    """An answer that may not stand at its entry."""

    def __init__(self, entry, answer):
        super().__init__("not an answer that may stand at this entry")
        self.entry = entry
        self.answer = answer


class BadSetting(StampError):
    """A value that a book's `ends` or `keep` cannot have."""

    def __init__(self, given):
        super().__init__("not a setting of a book")
        self.given = given


class BadStep(StampError):
    """A part of a run, or a word of a short text, that is no step."""

    def __init__(self, index):
        super().__init__(f"no step at index {index}")
        self.index = index


class Finished(StampError):
    """Something was asked by a transaction that is not open."""

    def __init__(self, stamp):
        super().__init__(f"transaction {stamp} is not open")
        self.stamp = stamp


class MustWait(StampError):
    """Something that was asked must wait until others have ended."""

    def __init__(self, stamp, holders):
        super().__init__(f"transaction {stamp} must wait")
        self.stamp = stamp
        self.holders = holders


class TooLate(StampError):
    """A request met an entry that led to the end of its asker."""

    def __init__(self, entry):
        super().__init__(f"too late at {entry}")
        self.entry = entry


class BrokenOff(StampError):
    """A request aborted its asker."""

    def __init__(self, stamp):
        super().__init__(f"transaction {stamp} was aborted by its request")
        self.stamp = stamp

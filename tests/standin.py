"""A book for the tests of runs: what play and fault need of one, and no more."""


class StandIn:
    """A book with these answers and abort elsewhere."""

    def __init__(self, answers=None, ends="now", keep=1):
        self.answers = dict(answers or {})
        self.ends = ends
        self.keep = keep

    def __getitem__(self, entry):
        return self.answers.get(entry, "abort")


def aborted(entry, *fallen):
    """The outcome of a request that meets an entry and aborts its asker."""
    return ("abort", (entry,), None, fallen)


PUT = ("put", (), None, ())
COMMIT = ("commit", (), None, ())
VOID = ("void", (), None, ())


def read(value, *met):
    """The outcome of a granted read."""
    return ("read", met, value, ())

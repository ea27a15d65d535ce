"""The desk: transactions that ask for what they want, one thing after another."""

from stamprules.errors import BadStamp, BrokenOff, Finished, MustWait, TooLate
from stamprules.stamps import Stamp, is_stamp
from stamprules.states import first_state, item_of, taken


class Desk:
    """Items, and the transactions that read and write them by a book.

    `left` lists what the blocks that were left ask for and what is not done
    yet. The transactions share this very list, since leaving a block may do no
    more than note something down.
    """

    def __init__(self, book):
        self.book = book.copy()
        self.state = first_state()
        self.begun = {}
        self.greatest = 0
        self.left = []

    def begin(self, *, stamp=None):
        """A new transaction with this stamp, or with one more than the greatest so far."""
        self.settle()
        number = self.greatest + 1 if stamp is None else stamp
        if not is_stamp(number, least=self.greatest + 1):
            raise BadStamp(number)
        asker = Transaction(self, Stamp(number), self.left)
        self.greatest = number
        self.begun[number] = True
        return asker

    def versions(self, item):
        """The list of the kept versions of an item, oldest first."""
        self.settle()
        return list(item_of(self.state, item).kept)

    def holder_of(self, item):
        """The stamp of the holder of an item, or None."""
        self.settle()
        return item_of(self.state, item).holder

    def reader_of(self, item):
        """The reader stamp of an item."""
        self.settle()
        return item_of(self.state, item).reader

    def state_of(self, stamp):
        """Whether the transaction with this stamp is open, committed or aborted."""
        self.settle()
        if not is_stamp(stamp) or stamp not in self.begun:
            raise BadStamp(stamp)
        return self.state.over.get(stamp, "open")

    def settle(self):
        """Do what the blocks that were left ask for, a commit that must wait when it can be done."""
        at = 0
        while at < len(self.left):
            outcome = self.take(self.left[at], None)
            if outcome[0] == "wait":
                at += 1
            else:
                # What was done may be what an earlier commit waited for.
                del self.left[at]
                at = 0

    def take(self, step, value):
        """The outcome of a step, which is taken."""
        self.state, outcome = taken(self.book, self.state, step, value)
        return outcome

    def ask(self, step, value):
        """The outcome of a step that a transaction asks for, or the error that it leads to."""
        self.settle()
        outcome = self.take(step, value)
        word, met, holders, _ = outcome
        if word == "void":
            raise Finished(step[1])
        if word == "wait":
            raise MustWait(step[1], holders)
        if word == "abort" and step[0] != "abort":
            raise BrokenOff(step[1]) from TooLate(met[-1])
        return outcome


class Reader:
    """The part of a transaction that reads."""

    def read(self, item):
        """The value that a read of this item returns."""
        return self.desk.ask(("read", self.number, item), None)[2]


class Writer:
    """The part of a transaction that writes."""

    def write(self, item, value):
        """Whether this value is put into the item; if not, the write is skipped."""
        return self.desk.ask(("write", self.number, item), value)[0] == "put"


class Transaction(Reader, Writer):
    """A transaction of a desk, and a block that ends with its commit or its abort."""

    def __init__(self, desk, stamp, left):
        self.desk = desk
        self.stamp = stamp
        self.number = stamp.number
        self.left = left

    def commit(self):
        """Commit; MustWait if others must end before."""
        self.desk.ask(("commit", self.number), None)

    def abort(self):
        """Abort, with all that are bound to this transaction."""
        self.desk.ask(("abort", self.number), None)

    def __enter__(self):
        return self

    def __exit__(self, kind, value, trace):
        if kind is None:
            self.left.append(("commit", self.number))
        else:
            self.left.append(("abort", self.number))


def perform(desk, requests):
    """Carry out requests in a block of a new transaction: its stamp and the values read."""
    values = []
    with desk.begin() as asker:
        for request in requests:
            if request[0] == "read":
                values.append(asker.read(request[1]))
            else:
                asker.write(request[1], request[2])
    return asker.number, values

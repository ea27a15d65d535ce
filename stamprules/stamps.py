"""Stamps, and the place that an asker has among the stamps at an item."""

from stamprules.errors import BadStamp

GREATEST = 10 ** 30


def is_stamp(number, least=0):
    """Whether a value is an integer from `least` to the greatest stamp."""
    # Python counts True and False among the integers.
    if isinstance(number, bool) or not isinstance(number, int):
        return False
    return least <= number <= GREATEST


class Stamp:
    """A stamp; two of them compare as their numbers do."""

    def __init__(self, number):
        if not is_stamp(number):
            raise BadStamp(number)
        self.number = number

    def __eq__(self, other):
        return isinstance(other, Stamp) and self.number == other.number

    def __ne__(self, other):
        if not isinstance(other, Stamp):
            return NotImplemented
        return self.number != other.number

    def __lt__(self, other):
        if not isinstance(other, Stamp):
            return NotImplemented
        return self.number < other.number

    def __le__(self, other):
        if not isinstance(other, Stamp):
            return NotImplemented
        return self.number <= other.number

    def __gt__(self, other):
        if not isinstance(other, Stamp):
            return NotImplemented
        return self.number > other.number

    def __ge__(self, other):
        if not isinstance(other, Stamp):
            return NotImplemented
        return self.number >= other.number


def place(asker, last, holder):
    """The place of an asker at an item with this last version and holder.

    The holder may be None. Three plain numbers do as well as three Stamps,
    since they are only compared with each other.
    """
    if holder is None:
        return "free" if last < asker else "late"
    if holder == asker:
        return "own"
    if asker < last:
        return "under"
    return "below" if asker < holder else "above"

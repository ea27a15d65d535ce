"""What a run has led to, and what one more step makes of it.

No function here changes what it is passed: a step makes a new state out of
an old one. Stamps are plain integers here. An outcome is the tuple
(word, met, value, fallen) that the document describes.
"""

from stamprules.stamps import place


class Item:
    """An item: its kept versions, oldest first, its open value and holder, its reader stamp."""

    def __init__(self, kept, holder, value, reader):
        self.kept = kept
        self.holder = holder
        self.value = value
        self.reader = reader


class State:
    """All that the steps have led to.

    `store` leads from names to items, `over` from the stamps of transactions
    that are not open to "committed" or "aborted", and `bonds` from stamps to
    the tuples of the stamps that they are bound to.
    """

    def __init__(self, store, over, bonds):
        self.store = store
        self.over = over
        self.bonds = bonds


def first_state():
    """The state ahead of the first step."""
    return State({}, {}, {})


def item_of(state, name):
    """The item of this name."""
    if name in state.store:
        return state.store[name]
    return Item(((0, 0),), None, None, 0)


def ascending(stamps):
    """The tuple of these stamps in ascending order."""
    return tuple(sorted([int(stamp) for stamp in stamps]))


def taken(book, state, step, value):
    """The state and the outcome after a step; if it is a write, it writes `value`."""
    word, stamp = step[:2]
    if stamp in state.over:
        return state, ("void", (), None, ())
    if word == "commit":
        return committed(book, state, stamp)
    if word == "abort":
        return aborted(state, stamp, ())
    return requested(book, state, step, value)


def committed(book, state, stamp):
    """The state and the outcome after a commit step."""
    bound = state.bonds.get(stamp, ())
    holders = ascending([holder for holder in bound if holder not in state.over])
    if holders:
        return state, ("wait", (), holders, ())
    over = dict(state.over)
    over[stamp] = "committed"
    store = {name: settled(item, stamp, book.keep) for name, item in state.store.items()}
    return State(store, over, state.bonds), ("commit", (), None, ())


def settled(item, stamp, keep):
    """The item after the commit of a transaction."""
    if item.holder != stamp:
        return item
    kept = (*item.kept, (stamp, item.value))
    return Item(kept[-keep:], None, None, item.reader)


def aborted(state, stamp, met):
    """The state and the outcome after the asker is aborted."""
    after, fallen = without(state, stamp)
    return after, ("abort", met, None, fallen)


def without(state, stamp):
    """The state after a transaction is aborted, and the stamps of all that fall."""
    fallen = falling(state, stamp)
    over = dict(state.over)
    for each in fallen:
        over[each] = "aborted"
    store = {name: released(item, fallen) for name, item in state.store.items()}
    return State(store, over, state.bonds), fallen


def falling(state, stamp):
    """The stamps of all that fall when a transaction is aborted, in ascending order."""
    fallen = [stamp]
    at = 0
    while at < len(fallen):
        for other, holders in state.bonds.items():
            if fallen[at] in holders and other not in state.over and other not in fallen:
                fallen.append(other)
        at += 1
    return ascending(fallen)


def released(item, fallen):
    """The item after these transactions are aborted."""
    if item.holder not in fallen:
        return item
    return Item(item.kept, None, None, item.reader)


def requested(book, state, step, value):
    """The state and the outcome after a read or a write of an open transaction."""
    between, first = asked(book, state, step, value)
    word, met, _, fallen = first
    if word != "wound":
        return between, first
    if step[1] in fallen:
        return between, ("abort", met, None, fallen)
    after, (word, more, returned, others) = asked(book, between, step, value)
    return after, (word, (*met, *more), returned, ascending([*fallen, *others]))


def asked(book, state, step, value):
    """The state and the outcome after a request is asked once.

    Its word is "wound" if the holder was aborted and nothing else was done yet.
    """
    kind, stamp, name = step
    item = item_of(state, name)
    spot = place(stamp, item.kept[-1][0], item.holder)
    entry = entry_met(kind, spot, item.reader > stamp)
    if entry is None:
        met, answer = (), fixed_answer(kind, spot)
    else:
        met, answer = (entry,), book[entry]
    if answer == "wait":
        return state, ("wait", met, (item.holder,), ())
    if answer == "wound":
        after, fallen = without(state, item.holder)
        return after, ("wound", met, None, fallen)
    if answer == "abort" or (answer == "old" and not older_values(item, stamp)):
        return aborted(state, stamp, met)
    if binds(book.ends, spot, answer):
        state = with_bond(state, stamp, item.holder)
    if kind == "read":
        return with_reader(state, name, stamp), ("read", met, value_read(item, stamp, answer), ())
    if answer == "skip":
        return state, ("skip", met, None, ())
    put = Item(item.kept, stamp, value, item.reader)
    return with_item(state, name, put), ("put", met, None, ())


def entry_met(kind, spot, passed):
    """The entry that a request at this place meets, or None if its answer is fixed."""
    if kind == "write" and passed:
        return f"write {spot} passed"
    if spot in ("free", "own"):
        return None
    return f"{kind} {spot}"


def fixed_answer(kind, spot):
    """The answer to a request that meets no entry."""
    if kind == "write":
        return "put"
    return "last" if spot == "free" else "open"


def older_values(item, stamp):
    """The values of the kept versions with a stamp less than this one, oldest first."""
    return [value for writer, value in item.kept if writer < stamp]


def value_read(item, stamp, answer):
    """The value that a granted read returns."""
    if answer == "open":
        return item.value
    if answer == "old":
        return older_values(item, stamp)[-1]
    return item.kept[-1][1]


def binds(ends, spot, answer):
    """Whether the asker becomes bound to the holder."""
    if ends != "after":
        return False
    if answer == "open":
        return spot != "own"
    return answer == "skip" and spot in ("below", "above")


def with_bond(state, stamp, holder):
    """The state in which a transaction is bound to a holder, too."""
    bound = state.bonds.get(stamp, ())
    if holder in bound:
        return state
    bonds = dict(state.bonds)
    bonds[stamp] = (*bound, holder)
    return State(state.store, state.over, bonds)


def with_reader(state, name, stamp):
    """The state in which a read of an item is granted to this stamp."""
    item = item_of(state, name)
    if stamp <= item.reader:
        return state
    return with_item(state, name, Item(item.kept, item.holder, item.value, stamp))


def with_item(state, name, item):
    """The state in which this item has this name."""
    store = dict(state.store)
    store[name] = item
    return State(store, state.over, state.bonds)

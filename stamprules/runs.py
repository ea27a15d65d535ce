"""Runs: playing a book, finding the fault of a run, reading short texts."""

from stamprules.errors import BadStep
from stamprules.stamps import GREATEST, is_stamp
from stamprules.states import ascending, first_state, item_of, taken

DIGITS = "0123456789"
SIGNS = "abcdefghijklmnopqrstuvwxyz0123456789"
LONGEST_NAME = 8
MOST_DIGITS = 31
LET_BY = ("read", "put", "skip", "commit")
WORDS = {"r": "read", "w": "write", "c": "commit", "a": "abort"}


def play(book, run):
    """The list of the outcomes of all steps of a run."""
    return [outcome for _, outcome, _ in traced(book, run)]


def fault(book, run):
    """The number of the first step up to which the run is not serial, or None."""
    trace = traced(book, run)
    outcomes = [outcome for _, outcome, _ in trace]
    for number, (_, outcome, after) in enumerate(trace, start=1):
        # Only a commit changes what is executed again, and what it must lead to.
        if outcome[0] == "commit" and not is_serial(run, outcomes[:number], after):
            return number
    return None


def lets_by(book, run):
    """Whether a book lets a run by: it grants all that is asked, and nobody falls."""
    return all([word in LET_BY and not fallen for word, _, _, fallen in play(book, run)])


def traced(book, run):
    """For each step of a run, the state before it, its outcome and the state after it."""
    check_run(run)
    state = first_state()
    trace = []
    for number, step in enumerate(run, start=1):
        after, outcome = taken(book, state, step, number)
        trace.append((state, outcome, after))
        state = after
    return trace


def is_serial(run, outcomes, state):
    """Whether the part of the run that has these outcomes and led to this state is serial."""
    granted = requests_granted(run, outcomes)
    values = {}
    for stamp in ascending(granted):
        if state.over.get(stamp) != "committed":
            continue
        for kind, name, value in granted[stamp]:
            if kind == "write":
                values[name] = value
            elif values.get(name, 0) != value:
                return False
    return all([values.get(name, 0) == item_of(state, name).kept[-1][1] for name in [*values, *state.store]])


def requests_granted(run, outcomes):
    """A dict from stamps to lists of granted requests (kind, item, value read or written)."""
    granted = {}
    for number, (step, outcome) in enumerate(zip(run, outcomes), start=1):
        word, _, value, _ = outcome
        if word not in ("read", "put", "skip"):
            continue
        kind, stamp, name = step
        if kind == "write":
            value = number
        earlier = granted.get(stamp, ())
        granted[stamp] = [*earlier, (kind, name, value)]
    return granted


def check_run(run):
    """Raise BadStep for the first part of the run that is no step."""
    for index, part in enumerate(run):
        if not is_step(part):
            raise BadStep(index)


def is_step(part):
    """Whether a part of a run is a step."""
    if not isinstance(part, tuple):
        return False
    if len(part) == 2:
        return part[0] in ("commit", "abort") and is_stamp(part[1], least=1)
    if len(part) == 3:
        return part[0] in ("read", "write") and is_stamp(part[1], least=1) and is_name(part[2])
    return False


def is_name(name):
    """Whether a value is the name of an item."""
    if not isinstance(name, str):
        return False
    return 1 <= len(name) <= LONGEST_NAME and all([sign in SIGNS for sign in name])


def steps_of(text, item="x"):
    """The run of a short text, all of whose steps use one item."""
    if text == "":
        return []
    run = []
    for index, word in enumerate(text.split(" ")):
        if word[:1] not in WORDS or not is_numeral(word[1:]):
            raise BadStep(index)
        kind, stamp = WORDS[word[0]], int(word[1:])
        if kind in ("read", "write"):
            run.append((kind, stamp, item))
        else:
            run.append((kind, stamp))
    return run


def is_numeral(digits):
    """Whether a text is the stamp of a transaction in digits without leading zeros."""
    # The length comes first: Python refuses to convert very long texts.
    if not 1 <= len(digits) <= MOST_DIGITS:
        return False
    if digits[0] == "0" or not all([digit in DIGITS for digit in digits]):
        return False
    return int(digits) <= GREATEST

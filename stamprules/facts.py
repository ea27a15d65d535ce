"""The facts of the document: short runs among which a shortest one of each kind is found.

Every list of runs here begins with the shortest ones. If any run at all shows
what a list is about, then the first of its runs that shows it is a shortest one.
"""

from stamprules.runs import lets_by, steps_of

WAYS = {
    "read late": ("w2 c2 r1",),
    "read under": ("w2 c2 w3 r1",),
    "read below": ("w2 r1",),
    "read above": ("w1 r2",),
    "write late": ("w2 c2 w1",),
    "write under": ("w2 c2 w3 w1",),
    "write below": ("w2 w1",),
    "write above": ("w1 w2",),
    "write free passed": ("r2 w1",),
    "write own passed": ("w1 r2 w1", "r2 w1 w1"),
    "write late passed": ("r2 w2 c2 w1",),
    "write under passed": ("r2 w2 c2 w3 w1",),
    "write below passed": ("r2 w2 w1",),
    "write above passed": ("w1 r3 w2", "r3 w1 w2"),
}
FAULTS_BEHIND = ("c1", "c2", "c1 c2", "c2 c1", "c3 c1")
FAULTS = (
    "w2 c2 w1 r1 c1",
    "w2 w1 r1 c2 c1",
    "w2 w1 c2 r1 c1",
    "w2 c2 w1 w3 r1 c1",
    "w2 c2 w3 w1 r1 c1",
    "w2 w1 c2 w3 r1 c1",
    "w2 c2 w3 w1 a3 r1 c1",
)
MOST_COMMITS = 20
# The steps before both strokes stand ahead of the stroke, the one behind them behind it.
RING_X = ("w3", "w3 r3", "w2 c2 w3", "w2 c2 w3 r3")
RING_X_BEHIND = ("| r1", "| w1", "r1 | c1", "w1 | c1")
RING_Y = ("w1", "w1 r4", "r4 w1")
RING_Y_BEHIND = ("| r3", "| w3", "r3 | c3", "w3 | c3")


def way_runs(entry):
    """The runs whose last step may meet this entry."""
    return shortest_first(list(WAYS[entry]))


def fault_runs():
    """The runs that may have a fault."""
    return shortest_first([*followed(ways(), FAULTS_BEHIND), *FAULTS])


def abort_runs():
    """The runs that may show a dirty read or a cascade."""
    return shortest_first(followed(ways(), ("a1", "a2", "a3")))


def eldest_runs():
    """The runs that may show the fall of the eldest."""
    return shortest_first([*ways(), *followed(ways(), ("a2", "a3")), *deep()])


def parting_runs():
    """The runs that one book may let by and another one not."""
    return shortest_first([*ways(), *followed(ways(), ("c1", "c2")), *deep()])


def parting_run(book, other):
    """A shortest run that `book` lets by and `other` does not, or None."""
    for run in parting_runs():
        if lets_by(book, run) and not lets_by(other, run):
            return run
    return None


def ring_runs():
    """The runs on x and y that may show a ring."""
    on_x = followed(RING_X, RING_X_BEHIND)
    on_y = followed(RING_Y, RING_Y_BEHIND)
    return sorted([ring_run(one, two) for one in on_x for two in on_y], key=len)


def ring_run(on_x, on_y):
    """The run of two texts: the steps before both strokes, then those behind them."""
    x_ahead, _, x_behind = on_x.partition(" | ")
    y_ahead, _, y_behind = on_y.partition(" | ")
    ahead = [*steps_of(x_ahead, "x"), *steps_of(y_ahead, "y")]
    return [*ahead, *steps_of(x_behind, "x"), *steps_of(y_behind, "y")]


def shortest_first(texts):
    """The runs of these texts, the shortest ones first."""
    return sorted([steps_of(text) for text in texts], key=len)


def followed(texts, ends):
    """Each of these texts with each of these ends behind it."""
    return [f"{text} {end}" for text in texts for end in ends]


def ways():
    """The texts of all ways."""
    return [text for texts in WAYS.values() for text in texts]


def deep():
    """The texts of the deep runs."""
    texts = []
    commits = "w2 c2"
    for stamp in range(3, MOST_COMMITS + 2):
        commits = f"{commits} w{stamp} c{stamp}"
        texts.append(f"{commits} r1")
        texts.append(f"{commits} w{stamp + 1} r1")
    return texts

"""The runs of point 12 as the document writes them, to check the answers to questions against."""

from stamprules.runs import steps_of

WAYS = """w2 c2 r1; w2 c2 w3 r1; w2 r1; w1 r2; w2 c2 w1; w2 c2 w3 w1; w2 w1; w1 w2; r2 w1; w1 r2 w1 or r2 w1 w1;
r2 w2 c2 w1; r2 w2 c2 w3 w1; r2 w2 w1; w1 r3 w2 or r3 w1 w2""".replace("\n", " ").split("; ")
EACH_WAY = [text for texts in WAYS for text in texts.split(" or ")]
SPECIAL = """w2 c2 w1 r1 c1; w2 w1 r1 c2 c1; w2 w1 c2 r1 c1; w2 c2 w1 w3 r1 c1; w2 c2 w3 w1 r1 c1; w2 w1 c2 w3 r1 c1;
w2 c2 w3 w1 a3 r1 c1""".replace("\n", " ").split("; ")


def behind(ends):
    return [f"{text} {end}" for text in EACH_WAY for end in ends.split(", ")]


def deep_runs():
    for commits in range(2, 21):
        ahead = " ".join(f"w{stamp} c{stamp}" for stamp in range(2, commits + 2))
        yield f"{ahead} r1"
        yield f"{ahead} w{commits + 2} r1"


def rings():
    for x in ("w3", "w3 r3", "w2 c2 w3", "w2 c2 w3 r3"):
        for x_end in ("| r1", "| w1", "r1 | c1", "w1 | c1"):
            for y in ("w1", "w1 r4", "r4 w1"):
                for y_end in ("| r3", "| w3", "r3 | c3", "w3 | c3"):
                    (x_ahead, x_behind), (y_ahead, y_behind) = f"{x} {x_end}".split(" | "), f"{y} {y_end}".split(" | ")
                    yield (steps_of(x_ahead, "x") + steps_of(y_ahead, "y")
                           + steps_of(x_behind, "x") + steps_of(y_behind, "y"))


FAULTS = [steps_of(text) for text in [*behind("c1, c2, c1 c2, c2 c1, c3 c1"), *SPECIAL]]
ABORTS = [steps_of(text) for text in behind("a1, a2, a3")]
ELDEST = [steps_of(text) for text in [*EACH_WAY, *behind("a2, a3"), *deep_runs()]]
PARTINGS = [steps_of(text) for text in [*EACH_WAY, *behind("c1, c2"), *deep_runs()]]
RINGS = list(rings())

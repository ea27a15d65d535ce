"""A second, plain reading of the document, written apart from the program, to compare it with.

A book is here any object with `ends`, `keep` and `book[entry]`; stamps are integers.
"""


class Model:
    """Items and transactions; every transaction whose stamp occurs is open at first."""

    def __init__(self, book):
        self.book = book
        self.versions = {}
        self.open_value = {}
        self.reader = {}
        self.ended = {}
        self.bound = {}

    def kept(self, item):
        return self.versions.setdefault(item, [(0, 0)])

    def holder(self, item):
        return self.open_value.get(item, (None, None))[0]

    def fall(self, first):
        """Abort a transaction and all that fall with it."""
        down = {first}
        while True:
            more = {s for s, holders in self.bound.items() if s not in self.ended and s not in down and holders & down}
            if not more:
                break
            down |= more
        for stamp in down:
            self.ended[stamp] = "aborted"
            for item in [item for item, pair in self.open_value.items() if pair[0] == stamp]:
                del self.open_value[item]
        return down

    def place(self, stamp, item):
        last, holder = self.kept(item)[-1][0], self.holder(item)
        if holder is None:
            return "free" if last < stamp else "late"
        if holder == stamp:
            return "own"
        if last < stamp < holder:
            return "below"
        if last < holder < stamp:
            return "above"
        assert stamp < last < holder, (stamp, last, holder)
        return "under"

    def step(self, step, value):
        """Take a step; a write writes this value."""
        stamp = step[1]
        if stamp in self.ended:
            return ("void", (), None, ())
        if step[0] == "abort":
            return ("abort", (), None, tuple(sorted(self.fall(stamp))))
        if step[0] == "commit":
            waits = tuple(sorted(s for s in self.bound.get(stamp, ()) if s not in self.ended))
            if waits:
                return ("wait", (), waits, ())
            for item in [item for item, pair in self.open_value.items() if pair[0] == stamp]:
                self.versions[item] = (self.kept(item) + [self.open_value.pop(item)])[-self.book.keep:]
            self.ended[stamp] = "committed"
            return ("commit", (), None, ())
        return self.request(step, value)

    def request(self, step, value):
        kind, stamp, item = step
        met, fallen = [], set()
        while True:
            place, holder = self.place(stamp, item), self.holder(item)
            passed = kind == "write" and self.reader.get(item, 0) > stamp
            if kind == "read" and place in ("free", "own"):
                answer = {"free": "last", "own": "open"}[place]
            elif kind == "write" and place in ("free", "own") and not passed:
                answer = "put"
            else:
                met.append(f"{kind} {place} passed" if passed else f"{kind} {place}")
                answer = self.book[met[-1]]
            if answer != "wound":
                break
            fallen |= self.fall(holder)
            if stamp in fallen:
                return ("abort", tuple(met), None, tuple(sorted(fallen)))
        older = [v for v in self.kept(item) if v[0] < stamp]
        if answer == "abort" or (answer == "old" and not older):
            fallen |= self.fall(stamp)
            return ("abort", tuple(met), None, tuple(sorted(fallen)))
        if answer == "wait":
            assert not fallen
            return ("wait", tuple(met), (holder,), ())
        conflict = place in ("under", "below", "above") if kind == "read" else place in ("below", "above")
        if self.book.ends == "after" and conflict and answer in ("open", "skip"):
            self.bound.setdefault(stamp, set()).add(holder)
        down = tuple(sorted(fallen))
        if kind == "read":
            self.reader[item] = max(self.reader.get(item, 0), stamp)
            got = {"last": self.kept(item)[-1], "old": older[-1] if older else None,
                   "open": self.open_value.get(item)}[answer][1]
            return ("read", tuple(met), got, down)
        if answer == "put":
            self.open_value[item] = (stamp, value)
        return (answer, tuple(met), None, down)


def outcomes(book, run):
    model = Model(book)
    return [model.step(step, number) for number, step in enumerate(run, start=1)]


def is_serial(book, run):
    model = Model(book)
    history = {}
    for number, step in enumerate(run, start=1):
        word, _, value, _ = model.step(step, number)
        if word in ("read", "put", "skip"):
            history.setdefault(step[1], []).append((step[0], step[2], value if word == "read" else number))
    values = {}
    for stamp in sorted(history):
        if model.ended.get(stamp) != "committed":
            continue
        for kind, item, value in history[stamp]:
            if kind == "read" and values.get(item, 0) != value:
                return False
            if kind == "write":
                values[item] = value
    items = {step[2] for step in run if len(step) == 3}
    return all(values.get(item, 0) == model.kept(item)[-1][1] for item in items)


def fault(book, run):
    for number in range(1, len(run) + 1):
        if not is_serial(book, run[:number]):
            return number
    return None


def lets_by(book, run):
    return all(word in ("read", "put", "skip", "commit") and not fallen for word, _, _, fallen in outcomes(book, run))


def has_dirty_read(book, run):
    model = Model(book)
    lenders = set()
    for number, step in enumerate(run, start=1):
        holder = model.holder(step[2]) if len(step) == 3 else None
        word, met, _, fallen = model.step(step, number)
        if lenders & set(fallen):
            return True
        if word == "read" and met and book[met[-1]] == "open":
            lenders.add(holder)
    return False


def has_cascade(book, run):
    model = Model(book)
    for number, step in enumerate(run, start=1):
        holder = model.holder(step[2]) if len(step) == 3 else None
        if set(model.step(step, number)[3]) - {step[1], holder}:
            return True
    return False


def falls_of_eldest(book, run):
    """How many steps abort the eldest and are not its own abort step."""
    model = Model(book)
    falls = 0
    for number, step in enumerate(run, start=1):
        still = [s for _, s, *_ in run if s not in model.ended]
        fallen = model.step(step, number)[3]
        if still and min(still) in fallen and step != ("abort", min(still)):
            falls += 1
    return falls


def has_ring(book, run):
    model = Model(book)
    waits = {}
    for number, step in enumerate(run, start=1):
        outcome = model.step(step, number)
        waits[step[1]] = set(outcome[2]) if outcome[0] == "wait" else set()
    waits = {s: {h for h in waits[s] if h not in model.ended} for s in waits if s not in model.ended}

    def reached(start):
        seen, todo = set(), list(waits.get(start, ()))
        while todo:
            stamp = todo.pop()
            if stamp not in seen:
                seen.add(stamp)
                todo += waits.get(stamp, ())
        return seen
    return any(stamp in reached(stamp) for stamp in waits)


def still_open(book, run):
    model = Model(book)
    for number, step in enumerate(run, start=1):
        model.step(step, number)
    return {s for _, s, *_ in run if s not in model.ended}

"""What the tests share: values of every kind, protocols, runs, and a plain reading of the table of deeds."""

import copy
import itertools
import random

STRENGTHS = ("none", "lazy", "forced")
ENDS = ("abort", "commit")
THANKS = ((), ("abort",), ("commit",), ("abort", "commit"))
HEADS = tuple(itertools.product(STRENGTHS, repeat=3))
MANNERS = tuple(itertools.product(STRENGTHS, STRENGTHS, STRENGTHS, THANKS, ENDS, (False, True)))

THIN = ("none", "forced", "none")
UNDONE = ("forced", "forced", "none", ("commit",), "abort", False)
DONE = ("forced", "none", "forced", ("abort",), "commit", False)
USUAL = (THIN, (UNDONE, UNDONE))
VOTES = (("begin",), ("yes", 0), ("yes", 1), ("count", 0), ("count", 1))


def nested(deep, wrap):
    """A value that lies so deep in others."""
    value = "core"
    for _ in range(deep):
        value = wrap(value)
    return value


def any_values():
    """Values of every kind that may be handed in, made anew at each call."""
    return [
        None, True, False, 0, 1, 2, -1, 5, 6, 7, 10 ** 400 - 1, 1 - 10 ** 400,
        "", "\n", " ", "begin", "forced", "abort", "idle", "head none forced none", "x" * 20000, "\n" * 20000,
        (), [], {}, (None,), (0, 0, 0), (1, 2, 3, 4), ((), ()), [[], []], {"begin": 0}, {None: [], (1, 2): {}},
        ("none", "forced"), ["none", "forced", "none"], ("none", "forced", "none", "none"),
        {"none": 0, "forced": 1, "lazy": 2}, (("begin",),), ["begin"], [("begin",)], ("begin", ()), ({}, []),
        nested(20, lambda value: (value,)), nested(20, lambda value: [value]), nested(20, lambda value: {"a": value}),
        (0,) * 4000, [{}] * 4000, tuple(range(4000)), {number: str(number) for number in range(4000)},
        b"".decode(), THIN, UNDONE, (THIN, UNDONE), (THIN, [UNDONE]),
    ]


def changed_parts(value, others):
    """Copies of this tuple with an item left out, added, or put in another's place, deep down, too."""
    yield list(value)
    yield value + (None,)
    yield value + value[-1:] + (0,)
    for k, item in enumerate(value):
        yield value[:k] + value[k + 1:]
        for other in others:
            yield value[:k] + (other,) + value[k + 1:]
        if isinstance(item, tuple):
            for changed in changed_parts(item, others):
                yield value[:k] + (changed,) + value[k + 1:]


def same(one, other):
    """Whether two values are alike, True being no 1, False no 0, and a list no tuple."""
    return repr(one) == repr(other)


def raised(error_class, function, *args, **more):
    """The fields of the error of just this class that the call raises; None if it raises none."""
    try:
        function(*args, **more)
    except error_class as error:
        return vars(error) if error.__class__ is error_class else None
    return None


class Unchanged:
    """Within it, what is handed in is watched; behind it, it has to be as it was."""

    def __init__(self, case, *values):
        self.case = case
        self.values = values
        self.copies = copy.deepcopy(values)

    def __enter__(self):
        return self

    def __exit__(self, *_):
        self.case.assertEqual(repr(self.values), repr(self.copies))


def some_protocols(many, seed, most=6):
    """So many protocols of unlike participants, the same ones for the same seed."""
    choice = random.Random(seed)
    protocols = []
    for _ in range(many):
        size = choice.randint(1, most)
        protocols.append((choice.choice(HEADS), tuple(choice.choice(MANNERS) for _ in range(size))))
    return protocols


def chosen(choice, deeds):
    """One of these deeds; falls come seldom, as they end so much."""
    rare = [deed for deed in deeds if deed[0] in ("fall", "stop", "quit", "no", "refused")]
    usual = [deed for deed in deeds if deed not in rare]
    if usual and (not rare or choice.random() < 0.75):
        return choice.choice(usual)
    return choice.choice(rare)


class Plain:
    """A transaction kept in lists and sets that are changed in place: the table of [B3], read once more."""

    def __init__(self, protocol):
        self.head, self.manners = protocol
        self.all = range(len(self.manners))
        self.phase, self.log, self.sure, self.heard = "idle", [], 0, set()
        self.phases = ["active" for _ in self.all]
        self.logs = [[] for _ in self.all]
        self.sures = [0 for _ in self.all]
        self.letters, self.told = set(), set()

    def standing(self):
        coordinator = (self.phase, tuple(self.log), self.sure, tuple(sorted(self.heard)))
        participants = tuple((self.phases[i], tuple(self.logs[i]), self.sures[i]) for i in self.all)
        return (coordinator, participants, tuple(sorted(self.letters)), tuple(sorted(self.told)))

    def takes(self, i, end):
        return (self.phases[i] == "prepared" or self.phases[i] == "blank" and self.manners[i][5]
                or self.phases[i] == "active" and end == "abort")

    def all_deeds(self):
        yield from (("begin",), ("quit",))
        for word in ("yes", "no", "read", "count", "refused", "thanked", "ask", "restore"):
            yield from ((word, i) for i in self.all)
        yield from (("hear", i, end) for i in self.all for end in ENDS)
        yield from (("stop", kept) for kept in range(self.sure, len(self.log) + 1))
        yield from (("fall", i, kept) for i in self.all for kept in range(self.sures[i], len(self.logs[i]) + 1))

    def can(self, deed):
        word = deed[0]
        if word in ("begin", "quit", "stop"):
            return {"begin": self.phase == "idle", "quit": self.phase == "voting", "stop": self.phase != "idle"}[word]
        i = deed[1]
        if word in ("yes", "no", "read"):
            return self.phases[i] == "active" and (i, "prepare") in self.letters
        if word == "count":
            return self.phase == "voting" and (i, "yes") in self.letters and i not in self.heard
        if word == "refused":
            return self.phase == "voting" and (i, "no") in self.letters
        if word == "thanked":
            end, thanks = {"committing": ("commit", "committed"), "aborting": ("abort", "aborted")}.get(
                self.phase, (None, None))
            return end in self.manners[i][3] and (i, thanks) in self.letters and i not in self.heard
        if word == "hear":
            thanks = (i, {"commit": "committed", "abort": "aborted"}[deed[2]])
            late = (self.phases[i] != "active" and not self.takes(i, deed[2])
                    and deed[2] in self.manners[i][3] and thanks not in self.letters)
            return (i, deed[2]) in self.letters and (self.takes(i, deed[2]) or late)
        if word == "ask":
            return (self.phases[i] == "prepared" and self.phase == "unknown"
                    and (i, self.manners[i][4]) not in self.letters)
        if word == "restore":
            return self.phases[i] == "blank" and self.manners[i][5] and self.phase in ("voting", "unknown")
        return self.phases[i] not in ("blank", "out")

    def write(self, row, strength):
        if strength != "none":
            self.log.append(row)
        if strength == "forced":
            self.sure = len(self.log)

    def write_at(self, i, row, strength):
        if strength != "none":
            self.logs[i].append(row)
        if strength == "forced":
            self.sures[i] = len(self.logs[i])

    def forget(self):
        if self.log:
            self.log.append("ended")
        self.heard, self.phase = set(), "unknown"

    def decide(self, end):
        row, strength = ("committed", self.head[1]) if end == "commit" else ("aborted", self.head[2])
        if row not in self.log:
            self.write(row, strength)
        self.told.add(end)
        self.letters |= {(i, end) for i in self.all}
        self.heard, self.phase = set(), "committing" if end == "commit" else "aborting"
        if not any(end in manner[3] for manner in self.manners):
            self.forget()

    def do(self, deed):
        getattr(self, "do_" + deed[0])(*deed[1:])

    def do_begin(self):
        self.write("begun", self.head[0])
        self.letters |= {(i, "prepare") for i in self.all}
        self.phase = "voting"

    def do_yes(self, i):
        self.write_at(i, "prepared", self.manners[i][0])
        self.letters.add((i, "yes"))
        self.phases[i] = "prepared"

    def do_no(self, i):
        self.letters.add((i, "no"))
        self.phases[i] = "aborted"
        self.told.add("abort")

    def do_read(self, i):
        self.letters.add((i, "yes"))
        self.phases[i] = "out"

    def do_count(self, i):
        self.heard.add(i)
        if self.heard == set(self.all):
            self.decide("commit")

    def do_refused(self, i):
        self.decide("abort")

    def do_quit(self):
        self.decide("abort")

    def do_thanked(self, i):
        self.heard.add(i)
        end = "commit" if self.phase == "committing" else "abort"
        if self.heard == {j for j in self.all if end in self.manners[j][3]}:
            self.forget()

    def do_hear(self, i, end):
        row, strength = ("committed", 1) if end == "commit" else ("aborted", 2)
        if self.takes(i, end):
            if end == "commit" or self.phases[i] == "prepared":
                self.write_at(i, row, self.manners[i][strength])
            self.told.add(end)
            self.phases[i] = row
        if end in self.manners[i][3]:
            self.letters.add((i, row))

    def do_ask(self, i):
        self.letters.add((i, self.manners[i][4]))

    def do_restore(self, i):
        if self.phase == "unknown":
            self.phases[i] = "aborted"
            self.told.add("abort")
        elif i in self.heard:
            self.write_at(i, "prepared", self.manners[i][0])
            self.phases[i] = "prepared"
        else:
            self.decide("abort")

    def do_stop(self, kept):
        self.log, self.sure, self.heard = self.log[:kept], kept, set()
        if not self.log or "ended" in self.log:
            self.phase = "unknown"
        else:
            self.decide("commit" if "committed" in self.log else "abort")

    def do_fall(self, i, kept):
        self.logs[i], self.sures[i] = self.logs[i][:kept], kept
        rows = [row for row in ("committed", "aborted", "prepared") if row in self.logs[i]]
        self.phases[i] = rows[0] if rows else "blank"
        if not rows and not self.manners[i][5]:
            self.told.add("abort")

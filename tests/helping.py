"""What the tests share: values of every kind, protocols, runs, and a plain reading of the table of deeds."""

import copy
import itertools
import random

from doubtbooks.errors import DoubtError
from doubtbooks.moving import after, open_deeds
from doubtbooks.standings import start
from doubtbooks.treemoving import after_tree, open_tree, start_tree

STRENGTHS = ("none", "lazy", "forced")
ENDS = ("abort", "commit")
THANKS = ((), ("abort",), ("commit",), ("abort", "commit"))
HEADS = tuple(itertools.product(STRENGTHS, repeat=3))
MANNERS = tuple(itertools.product(STRENGTHS, STRENGTHS, STRENGTHS, THANKS, ENDS, (False, True)))

THIN = ("none", "forced", "none")
UNDONE = ("forced", "forced", "none", ("commit",), "abort", False)
DONE = ("forced", "none", "forced", ("abort",), "commit", False)
USUAL = (THIN, (UNDONE, UNDONE))
VOTES = (("begin",), ("yes", 0), ("yes", 1), ("count", 0), ("count", 1))


def nested(deep, wrap):
    """A value that lies so deep in others."""
    value = "core"
    for _ in range(deep):
        value = wrap(value)
    return value


def any_values():
    """Values of every kind that may be handed in, made anew at each call."""
    return [
        None, True, False, 0, 1, 2, -1, 5, 6, 7, 10 ** 400 - 1, 1 - 10 ** 400,
        "", "\n", " ", "begin", "forced", "abort", "idle", "head none forced none", "x" * 20000, "\n" * 20000,
        (), [], {}, (None,), (0, 0, 0), (1, 2, 3, 4), ((), ()), [[], []], {"begin": 0}, {None: [], (1, 2): {}},
        ("none", "forced"), ["none", "forced", "none"], ("none", "forced", "none", "none"),
        {"none": 0, "forced": 1, "lazy": 2}, (("begin",),), ["begin"], [("begin",)], ("begin", ()), ({}, []),
        nested(20, lambda value: (value,)), nested(20, lambda value: [value]), nested(20, lambda value: {"a": value}),
        (0,) * 4000, [{}] * 4000, tuple(range(4000)), {number: str(number) for number in range(4000)},
        b"".decode(), THIN, UNDONE, (THIN, UNDONE), (THIN, [UNDONE]),
    ]


def changed_parts(value, others):
    """Copies of this tuple with an item left out, added, or put in another's place, deep down, too."""
    yield list(value)
    yield value + (None,)
    yield value + value[-1:] + (0,)
    for k, item in enumerate(value):
        yield value[:k] + value[k + 1:]
        for other in others:
            yield value[:k] + (other,) + value[k + 1:]
        if isinstance(item, tuple):
            for changed in changed_parts(item, others):
                yield value[:k] + (changed,) + value[k + 1:]


def same(one, other):
    """Whether two values are alike, True being no 1, False no 0, and a list no tuple."""
    return repr(one) == repr(other)


def raised(error_class, function, *args, **more):
    """The fields of the error of just this class that the call raises; None if it raises none."""
    try:
        function(*args, **more)
    except error_class as error:
        return vars(error) if error.__class__ is error_class else None
    return None


def outcome(function, *args, **more):
    """What a call returns, or the class and the fields of the error of the package that it raises."""
    try:
        return ("returned", function(*args, **more))
    except DoubtError as error:
        return ("raised", error.__class__.__name__, vars(error))


def called(case, function, between, **arguments):
    """The outcome of a call, which has to be the same by place, by name, and again behind another call."""
    with Unchanged(case, *arguments.values()):
        first = outcome(function, *arguments.values())
        shown = repr(first)
        case.assertEqual(repr(outcome(function, **arguments)), shown)
        between()
        turned = {name: arguments[name] for name in reversed(list(arguments))}
        case.assertEqual(repr(outcome(function, **turned)), shown)
    case.assertEqual(repr(first), shown)
    return first


class Unchanged:
    """Within it, what is handed in is watched; behind it, it has to be as it was."""

    def __init__(self, case, *values):
        self.case = case
        self.values = values
        self.copies = copy.deepcopy(values)

    def __enter__(self):
        return self

    def __exit__(self, *_):
        self.case.assertEqual(repr(self.values), repr(self.copies))


def some_protocols(many, seed, most=6):
    """So many protocols of unlike participants, the same ones for the same seed."""
    choice = random.Random(seed)
    protocols = []
    for _ in range(many):
        size = choice.randint(1, most)
        protocols.append((choice.choice(HEADS), tuple(choice.choice(MANNERS) for _ in range(size))))
    return protocols


def chosen(choice, deeds):
    """One of these deeds; falls come seldom, as they end so much."""
    rare = [deed for deed in deeds if deed[0] in ("fall", "stop", "quit", "no", "refused")]
    usual = [deed for deed in deeds if deed not in rare]
    if usual and (not rare or choice.random() < 0.75):
        return choice.choice(usual)
    return choice.choice(rare)


def walk(protocol, choice, many):
    """Triples (standing, deed, standing behind it) along a run of at most so many deeds."""
    standing = start(protocol)
    for _ in range(many):
        can = open_deeds(protocol, standing)
        if not can:
            return
        deed = chosen(choice, can)
        behind = after(protocol, standing, deed)
        yield standing, deed, behind
        standing = behind


def standings_along(protocol, choice, many):
    """The standings along a run of at most so many deeds, the start among them."""
    return [start(protocol)] + [behind for standing, deed, behind in walk(protocol, choice, many)]


def levels(protocol, first, deeds_of=open_deeds):
    """The standings that come from first: a list of sets, those behind no deed, one deed, and so on."""
    met, found = {first}, [{first}]
    while found[-1]:
        found.append(set())
        for standing in found[-2]:
            for deed in deeds_of(protocol, standing):
                behind = after(protocol, standing, deed)
                if behind not in met:
                    met.add(behind)
                    found[-1].add(behind)
    return found[:-1]


def ever_splits(protocol):
    """Whether any run comes to a split, by going through all standings until one is met."""
    met, waiting = {start(protocol)}, [start(protocol)]
    while waiting:
        standing = waiting.pop()
        if len(standing[3]) == 2:
            return True
        for deed in open_deeds(protocol, standing):
            behind = after(protocol, standing, deed)
            if behind not in met:
                met.add(behind)
                waiting.append(behind)
    return False


def lacking(head, manner):
    """The table of words of [D2], read once more."""
    prepared, committed, aborted, thanks, presumed, sent = manner
    undoing, unsure = presumed == "abort", sent and prepared != "forced"
    holds = {
        "head committed": head[1] != "forced",
        "prepared": prepared != "forced" and not sent,
        "committed": committed != "forced" and (undoing or unsure),
        "thanks commit": "commit" not in thanks and (undoing or unsure),
        "begun": not undoing and head[0] != "forced",
        "thanks abort": not undoing and "abort" not in thanks,
        "aborted": not undoing and aborted != "forced" and prepared != "none",
    }
    return tuple(sorted(word for word in holds if holds[word]))


def fitting_manners(head):
    """All manners that lack nothing beside this head."""
    return [manner for manner in MANNERS if not lacking(head, manner)]


FIT = {head: fitting_manners(head) for head in HEADS}


def safe_protocols(many, seed, least=2, most=6):
    """So many safe protocols of unlike participants, the same ones for the same seed."""
    choice = random.Random(seed)
    heads = [head for head in HEADS if FIT[head]]
    # Where commit can be presumed there are more of unlike kinds.
    heads += [head for head in heads if head[0] == "forced"] * 2
    protocols = []
    for _ in range(many):
        head = choice.choice(heads)
        protocols.append((head, tuple(choice.choice(FIT[head]) for _ in range(choice.randint(least, most)))))
    return protocols


class Plain:
    """A transaction kept in lists and sets that are changed in place: the table of [B3], read once more."""

    def __init__(self, protocol):
        self.head, self.manners = protocol
        self.all = range(len(self.manners))
        self.phase, self.log, self.sure, self.heard = "idle", [], 0, set()
        self.phases = ["active" for _ in self.all]
        self.logs = [[] for _ in self.all]
        self.sures = [0 for _ in self.all]
        self.letters, self.told = set(), set()
        # What [I3] counts: triples (site, row, strength), letters as often as they are sent, works.
        self.rows, self.sent, self.works = [], 0, 0

    def standing(self):
        coordinator = (self.phase, tuple(self.log), self.sure, tuple(sorted(self.heard)))
        participants = tuple((self.phases[i], tuple(self.logs[i]), self.sures[i]) for i in self.all)
        return (coordinator, participants, tuple(sorted(self.letters)), tuple(sorted(self.told)))

    def takes(self, i, end):
        return (self.phases[i] == "prepared" or self.phases[i] == "blank" and self.manners[i][5]
                or self.phases[i] == "active" and end == "abort")

    def all_deeds(self):
        yield from (("begin",), ("quit",))
        for word in ("yes", "no", "read", "count", "refused", "thanked", "ask", "restore"):
            yield from ((word, i) for i in self.all)
        yield from (("hear", i, end) for i in self.all for end in ENDS)
        yield from (("stop", kept) for kept in range(self.sure, len(self.log) + 1))
        yield from (("fall", i, kept) for i in self.all for kept in range(self.sures[i], len(self.logs[i]) + 1))

    def can(self, deed):
        word = deed[0]
        if word in ("begin", "quit", "stop"):
            return {"begin": self.phase == "idle", "quit": self.phase == "voting", "stop": self.phase != "idle"}[word]
        i = deed[1]
        if word in ("yes", "no", "read"):
            return self.phases[i] == "active" and (i, "prepare") in self.letters
        if word == "count":
            return self.phase == "voting" and (i, "yes") in self.letters and i not in self.heard
        if word == "refused":
            return self.phase == "voting" and (i, "no") in self.letters
        if word == "thanked":
            end, thanks = {"committing": ("commit", "committed"), "aborting": ("abort", "aborted")}.get(
                self.phase, (None, None))
            return end in self.manners[i][3] and (i, thanks) in self.letters and i not in self.heard
        if word == "hear":
            thanks = (i, {"commit": "committed", "abort": "aborted"}[deed[2]])
            late = (self.phases[i] != "active" and not self.takes(i, deed[2])
                    and deed[2] in self.manners[i][3] and thanks not in self.letters)
            return (i, deed[2]) in self.letters and (self.takes(i, deed[2]) or late)
        if word == "ask":
            return (self.phases[i] == "prepared" and self.phase == "unknown"
                    and (i, self.manners[i][4]) not in self.letters)
        if word == "restore":
            return self.phases[i] == "blank" and self.manners[i][5] and self.phase in ("voting", "unknown")
        return self.phases[i] not in ("blank", "out")

    def costs(self):
        """What [I3] tells of all that was done so far."""
        own = [strength for site, row, strength in self.rows if site == 0]
        theirs = [strength for site, row, strength in self.rows if site > 0]
        return (own.count("forced"), own.count("lazy"), theirs.count("forced"), theirs.count("lazy"), self.sent,
                self.works)

    def send(self, *letters):
        self.letters |= set(letters)
        self.sent += len(letters)

    def write(self, row, strength):
        if strength != "none":
            self.log.append(row)
            self.rows.append((0, row, strength))
        if strength == "forced":
            self.sure = len(self.log)

    def write_at(self, i, row, strength):
        if strength != "none":
            self.logs[i].append(row)
            self.rows.append((i + 1, row, strength))
        if strength == "forced":
            self.sures[i] = len(self.logs[i])

    def forget(self):
        if self.log:
            self.write("ended", "lazy")
        self.heard, self.phase = set(), "unknown"

    def decide(self, end):
        row, strength = ("committed", self.head[1]) if end == "commit" else ("aborted", self.head[2])
        if row not in self.log:
            self.write(row, strength)
        self.told.add(end)
        self.send(*[(i, end) for i in self.all])
        self.heard, self.phase = set(), "committing" if end == "commit" else "aborting"
        if not any(end in manner[3] for manner in self.manners):
            self.forget()

    def do(self, deed):
        getattr(self, "do_" + deed[0])(*deed[1:])

    def do_begin(self):
        self.write("begun", self.head[0])
        self.send(*[(i, "prepare") for i in self.all])
        self.phase = "voting"

    def do_yes(self, i):
        self.write_at(i, "prepared", self.manners[i][0])
        self.send((i, "yes"))
        self.works += self.manners[i][5]
        self.phases[i] = "prepared"

    def do_no(self, i):
        self.send((i, "no"))
        self.phases[i] = "aborted"
        self.told.add("abort")

    def do_read(self, i):
        self.send((i, "yes"))
        self.phases[i] = "out"

    def do_count(self, i):
        self.heard.add(i)
        if self.heard == set(self.all):
            self.decide("commit")

    def do_refused(self, i):
        self.decide("abort")

    def do_quit(self):
        self.decide("abort")

    def do_thanked(self, i):
        self.heard.add(i)
        end = "commit" if self.phase == "committing" else "abort"
        if self.heard == {j for j in self.all if end in self.manners[j][3]}:
            self.forget()

    def do_hear(self, i, end):
        row, strength = ("committed", 1) if end == "commit" else ("aborted", 2)
        if self.takes(i, end):
            if end == "commit" or self.phases[i] == "prepared":
                self.write_at(i, row, self.manners[i][strength])
            self.told.add(end)
            self.phases[i] = row
        if end in self.manners[i][3]:
            self.send((i, row))

    def do_ask(self, i):
        self.send((i, self.manners[i][4]))

    def do_restore(self, i):
        if self.phase == "unknown":
            self.phases[i] = "aborted"
            self.told.add("abort")
        elif i in self.heard:
            self.write_at(i, "prepared", self.manners[i][0])
            self.phases[i] = "prepared"
        else:
            self.decide("abort")

    def do_stop(self, kept):
        self.log, self.sure, self.heard = self.log[:kept], kept, set()
        if not self.log or "ended" in self.log:
            self.phase = "unknown"
        else:
            self.decide("commit" if "committed" in self.log else "abort")

    def do_fall(self, i, kept):
        self.logs[i], self.sures[i] = self.logs[i][:kept], kept
        rows = [row for row in ("committed", "aborted", "prepared") if row in self.logs[i]]
        self.phases[i] = rows[0] if rows else "blank"
        if not rows and not self.manners[i][5]:
            self.told.add("abort")


def shapes(many):
    """All ways to put so many nodes below a root: tuples of the nodes above them."""
    return list(itertools.product(*[range(node) for node in range(1, many + 1)]))


def drawn_entry(choice, upper, is_middle, sound):
    """An entry of a node; each part that matters is right as often as sound tells, from 0 to 1."""
    def strength(forced):
        return "forced" if forced and choice.random() < sound else choice.choice(STRENGTHS)

    presumed = choice.choice(ENDS)
    needed = "commit" if presumed == "abort" else "abort"
    thanks = choice.choice([each for each in THANKS if needed in each] if choice.random() < sound else THANKS)
    rows = (strength(True), strength(presumed == "abort"), strength(presumed == "commit"))
    begun = strength(True) if is_middle else "none"
    return (upper, begun, *rows, thanks, presumed, is_middle and choice.random() < 0.5)


def drawn_tree(choice, uppers, sound):
    """A tree of this shape."""
    head = tuple("forced" if choice.random() < sound else choice.choice(STRENGTHS) for _ in range(3))
    return (head, tuple(drawn_entry(choice, upper, node in uppers, sound) for node, upper in enumerate(uppers, 1)))


def some_trees(many, seed, least=1, most=7, sounds=(0, 0.6, 0.9, 0.97)):
    """So many trees of all shapes, the same ones for the same seed."""
    choice = random.Random(seed)
    trees = []
    for _ in range(many):
        uppers = tuple(choice.randrange(node) for node in range(1, choice.randint(least, most) + 1))
        trees.append(drawn_tree(choice, uppers, choice.choice(sounds)))
    return trees


def edge_lacking(tree, node):
    """The words of [J3], read once more."""
    head, entries = tree
    upper, _, prepared, committed, aborted, thanks, presumed, _ = entries[node - 1]
    begun = head[0] if upper == 0 else entries[upper - 1][1]
    holds = {
        "prepared": prepared != "forced",
        "committed": presumed == "abort" and committed != "forced",
        "thanks commit": presumed == "abort" and "commit" not in thanks,
        "begun": presumed == "commit" and begun != "forced",
        "aborted": presumed == "commit" and aborted != "forced",
        "thanks abort": presumed == "commit" and "abort" not in thanks,
    }
    return tuple(sorted(word for word in holds if holds[word]))


def is_sound_tree(tree):
    """[J4], read once more: whether a tree is safe."""
    (begun, committed, aborted), entries = tree
    wrong = {node for node in range(1, len(entries) + 1) if edge_lacking(tree, node)}
    if committed == "forced" and not wrong:
        return True
    first = entries[0]
    return ([entry[0] for entry in entries].count(0) == 1 and wrong <= {1} and first[6] == "commit"
            and first[2] == first[4] == aborted == "forced" and "abort" in first[5]
            and (begun == "none" or committed == "forced"))


def safe_trees(many, seed, least=1, most=7):
    """So many safe trees of all shapes, the same ones for the same seed."""
    found = [tree for tree in some_trees(40 * many, seed, least, most, (0.97, 1)) if is_sound_tree(tree)]
    return found[:many]


def tree_walk(tree, choice, many):
    """Triples (standing, deed, standing behind it) along a run of at most so many deeds in a tree."""
    standing = start_tree(tree)
    for _ in range(many):
        can = open_tree(tree, standing)
        if not can:
            return
        deed = chosen(choice, can)
        behind = after_tree(tree, standing, deed)
        yield standing, deed, behind
        standing = behind


def tree_levels(tree):
    """All standings of a tree that come from its start: a list of sets, as levels tells of protocols."""
    met, found = {start_tree(tree)}, [{start_tree(tree)}]
    while found[-1]:
        found.append(set())
        for standing in found[-2]:
            for deed in open_tree(tree, standing):
                behind = after_tree(tree, standing, deed)
                if behind not in met:
                    met.add(behind)
                    found[-1].add(behind)
    return found[:-1]


class PlainTree:
    """A transaction in a tree, kept in lists and sets that are changed in place: [J5] and [J6], read once more."""

    def __init__(self, tree):
        self.head, entries = tree
        self.entry = (None,) + entries
        self.nodes = range(len(self.entry))
        self.phase = ["idle"] + ["active"] * len(entries)
        self.log = [[] for _ in self.nodes]
        self.sure = [0 for _ in self.nodes]
        self.heard = [set() for _ in self.nodes]
        self.letters, self.told = set(), set()
        self.kids = [{k for k in self.nodes if k and self.entry[k][0] == u} for u in self.nodes]

    def load(self, standing):
        """Goes on from this standing."""
        sites, letters, told = standing
        self.phase = [site[0] for site in sites]
        self.log = [list(site[1]) for site in sites]
        self.sure = [site[2] for site in sites]
        self.heard = [set(site[3]) for site in sites]
        self.letters, self.told = set(letters), set(told)

    def standing(self):
        sites = tuple((self.phase[k], tuple(self.log[k]), self.sure[k], tuple(sorted(self.heard[k]))) for k in self.nodes)
        return (sites, tuple(sorted(self.letters)), tuple(sorted(self.told)))

    def thanks(self, i, end):
        return i > 0 and end in self.entry[i][5]

    def thanks_there(self, i, end):
        return (i, {"commit": "committed", "abort": "aborted"}[end]) in self.letters

    def all_deeds(self):
        yield ("begin",)
        for word in ("forward", "yes", "no", "count", "refused", "quit", "thanked", "ask"):
            yield from ((word, i) for i in self.nodes)
        yield from (("hear", i, end) for i in self.nodes for end in ENDS)
        yield from (("fall", i, kept) for i in self.nodes for kept in range(self.sure[i], len(self.log[i]) + 1))

    def can(self, deed):
        if deed[0] == "begin":
            return self.phase[0] == "idle"
        word, i = deed[:2]
        phase = self.phase[i]
        if word == "quit":
            return phase == "voting"
        if word == "fall":
            return phase not in ("idle", "blank")
        if i == 0:
            return False
        u, late = self.entry[i][0], self.entry[i][7]
        if word in ("forward", "yes", "no"):
            return phase == "active" and (i, "prepare") in self.letters and (word == "forward") == bool(self.kids[i])
        if word == "count":
            return self.phase[u] == "voting" and (i, "yes") in self.letters and i not in self.heard[u]
        if word == "refused":
            return self.phase[u] == "voting" and (i, "no") in self.letters
        if word == "thanked":
            end = {"committing": "commit", "aborting": "abort"}.get(self.phase[u])
            return end is not None and self.thanks(i, end) and self.thanks_there(i, end) and i not in self.heard[u]
        if word == "ask":
            return (phase == "prepared" and self.phase[u] in ("unknown", "blank")
                    and (i, self.entry[i][6]) not in self.letters)
        end = deed[2]
        if (i, end) not in self.letters:
            return False
        if phase == "prepared" or (end == "abort" and phase in ("active", "voting")):
            return True
        waiting = late and (phase, end) in (("committing", "commit"), ("aborting", "abort"))
        return (self.thanks(i, end) and not self.thanks_there(i, end) and phase not in ("active", "voting")
                and not waiting)

    def write(self, i, row, strength=None):
        if row in self.log[i]:
            return
        if strength is None:
            if i == 0:
                strength = self.head[("begun", "committed", "aborted").index(row)]
            else:
                strength = self.entry[i][1 + ("begun", "prepared", "committed", "aborted").index(row)]
        if strength != "none":
            self.log[i].append(row)
        if strength == "forced":
            self.sure[i] = len(self.log[i])

    def thank(self, i, end):
        if self.thanks(i, end):
            self.letters.add((i, {"commit": "committed", "abort": "aborted"}[end]))

    def forget(self, i):
        if self.log[i]:
            self.write(i, "ended", "lazy")
        self.heard[i], self.phase[i] = set(), "unknown"

    def give_up(self, i):
        if i:
            self.letters.add((i, "no"))
        self.end(i, "abort")

    def end(self, i, end):
        row = {"commit": "committed", "abort": "aborted"}[end]
        if not self.kids[i]:
            if end == "commit" or self.phase[i] == "prepared":
                self.write(i, row)
            self.told.add(end)
            self.phase[i] = row
            self.thank(i, end)
            return
        self.write(i, row)
        self.told.add(end)
        self.heard[i] = set()
        self.phase[i] = {"commit": "committing", "abort": "aborting"}[end]
        self.letters |= {(k, end) for k in self.kids[i]}
        if i and not self.entry[i][7]:
            self.thank(i, end)
        if not any(self.thanks(k, end) for k in self.kids[i]):
            self.thank(i, end)
            self.forget(i)

    def do(self, deed):
        getattr(self, "do_" + deed[0])(*deed[1:])

    def do_begin(self):
        self.do_forward(0)

    def do_forward(self, i):
        self.write(i, "begun")
        self.letters |= {(k, "prepare") for k in self.kids[i]}
        self.phase[i] = "voting"

    def do_yes(self, i):
        self.write(i, "prepared")
        self.letters.add((i, "yes"))
        self.phase[i] = "prepared"

    def do_no(self, i):
        self.letters.add((i, "no"))
        self.told.add("abort")
        self.phase[i] = "aborted"

    def do_count(self, i):
        u = self.entry[i][0]
        self.heard[u].add(i)
        if self.heard[u] == self.kids[u]:
            if u == 0:
                self.end(u, "commit")
            else:
                self.write(u, "prepared")
                self.letters.add((u, "yes"))
                self.heard[u], self.phase[u] = set(), "prepared"

    def do_refused(self, i):
        self.give_up(self.entry[i][0])

    def do_quit(self, i):
        self.give_up(i)

    def do_hear(self, i, end):
        if self.phase[i] == "prepared" or (end == "abort" and self.phase[i] in ("active", "voting")):
            self.end(i, end)
        else:
            self.thank(i, end)

    def do_thanked(self, i):
        u = self.entry[i][0]
        end = "commit" if self.phase[u] == "committing" else "abort"
        self.heard[u].add(i)
        if self.heard[u] == {k for k in self.kids[u] if self.thanks(k, end)}:
            self.thank(u, end)
            self.forget(u)

    def do_ask(self, i):
        self.letters.add((i, self.entry[i][6]))

    def do_fall(self, i, kept):
        self.log[i], self.sure[i], self.heard[i] = self.log[i][:kept], kept, set()
        rows = self.log[i]
        if "ended" in rows:
            self.phase[i] = "unknown"
        elif "committed" in rows and self.kids[i]:
            self.end(i, "commit")
        elif "committed" in rows:
            self.phase[i] = "committed"
        elif "aborted" in rows and self.kids[i]:
            self.end(i, "abort")
        elif "aborted" in rows:
            self.phase[i] = "aborted"
        elif "prepared" in rows:
            self.phase[i] = "prepared"
        elif "begun" in rows:
            self.give_up(i)
        elif i == 0:
            self.phase[i] = "unknown"
        else:
            self.phase[i] = "blank"
            self.told.add("abort")


class PlainManager:
    """Many transactions kept in lists and dicts that are changed in place: [K1] and [K2], read once more."""

    RULE = ("begin", "quit", "hear", "thanked", "ask", "restore", "no")

    def __init__(self, protocol):
        self.protocol = protocol
        self.plains, self.deeds, self.sites = {}, {}, [[[], 0] for _ in range(len(protocol[1]) + 1)]

    def enter(self, name):
        self.plains[name], self.deeds[name] = Plain(self.protocol), []

    def step(self, name, deed):
        """The deed is done by this transaction alone; what it writes goes behind the logs of the sites."""
        plain = self.plains[name]
        plain.rows.clear()
        plain.do(deed)
        self.deeds[name].append(deed)
        for site, row, strength in plain.rows:
            self.sites[site][0].append((name, row))
            if strength == "forced":
                self.sites[site][1] = len(self.sites[site][0])

    def settle(self):
        """How much of each log is sure is told by the logs of the sites."""
        for name, plain in self.plains.items():
            sures = [[owner for owner, row in rows[:sure]].count(name) for rows, sure in self.sites]
            plain.sure, plain.sures = sures[0], sures[1:]

    def do(self, name, deed):
        self.step(name, deed)
        self.settle()

    def fall(self, site, kept):
        self.sites[site] = [self.sites[site][0][:kept], kept]
        for name, plain in self.plains.items():
            own = [owner for owner, row in self.sites[site][0]].count(name)
            deed = ("fall", site - 1, own) if site else ("stop", own)
            if plain.can(deed):
                self.step(name, deed)
        self.settle()

    def waits(self, plain):
        waiting = ("active", "prepared")
        return plain.phase != "unknown" or any(
            plain.phases[i] in waiting or plain.phases[i] == "blank" and plain.manners[i][5] for i in plain.all)

    def go_home(self):
        many = 0
        for name, plain in self.plains.items():
            while self.waits(plain):
                can = [deed for deed in plain.all_deeds() if plain.can(deed)]
                word = [word for word in self.RULE if word in [deed[0] for deed in can]][0]
                self.step(name, min(deed for deed in can if deed[0] == word))
                many += 1
        self.settle()
        return many

    def shown(self):
        """All that a manager tells of itself."""
        return (tuple(self.plains), {name: (plain.standing(), tuple(self.deeds[name])) for name, plain in self.plains.items()},
                [(tuple(rows), sure) for rows, sure in self.sites],
                tuple(sorted(name for name, plain in self.plains.items() if len(plain.told) == 2)))


def shown(manager):
    """All that a manager tells of itself."""
    return (manager.names, {name: (manager.standing_of(name), manager.deeds_of(name)) for name in manager.names},
            [manager.log_of(site) for site in range(len(manager.protocol[1]) + 1)], manager.split_names())

"""Which deeds can be done in a standing of a tree, and the standings behind them."""

from doubtbooks.bounds import MAX_DEEDS
from doubtbooks.deeds import end_of, phase_of, row_of
from doubtbooks.errors import Refused, TooMany, Unfit
from doubtbooks.kinds import is_integer_within
from doubtbooks.protocols import ENDS
from doubtbooks.treedeeds import done_in_tree, heard_at, is_ended_by, phase_at
from doubtbooks.trees import above, below, is_late, presumed_for, thanks_for

# One place for the items behind each word, as for the deeds of protocols.
TREE_DEED_SHAPES = {
    "begin": (),
    "forward": ("node",),
    "yes": ("node",),
    "no": ("node",),
    "count": ("node",),
    "refused": ("node",),
    "quit": ("node",),
    "hear": ("node", "end"),
    "thanked": ("node",),
    "ask": ("node",),
    "fall": ("node", "kept"),
}


def start_tree(tree):
    """The standing with which each run of tree begins."""
    sites = (("idle", (), 0, ()),) + (("active", (), 0, ()),) * len(tree[1])
    return (sites, (), ())


def can_begin(tree, standing, deed):
    """Whether the root has not begun."""
    return phase_at(standing, 0) == "idle"


def is_asked(standing, node):
    """Whether this node is asked to prepare, and has not answered."""
    return phase_at(standing, node) == "active" and (node, "prepare") in standing[1]


def can_forward(tree, standing, deed):
    """Whether this is a middle node that is asked."""
    return below(tree, deed[1]) != () and is_asked(standing, deed[1])


def can_vote(tree, standing, deed):
    """Whether this is a leaf that is asked."""
    return below(tree, deed[1]) == () and is_asked(standing, deed[1])


def can_count(tree, standing, deed):
    """Whether there is a yes of this node for the one above it to count."""
    node = above(tree, deed[1])
    if phase_at(standing, node) != "voting" or deed[1] in heard_at(standing, node):
        return False
    return (deed[1], "yes") in standing[1]


def can_be_refused(tree, standing, deed):
    """Whether there is a no of this node for the one above it to hear."""
    return phase_at(standing, above(tree, deed[1])) == "voting" and (deed[1], "no") in standing[1]


def can_quit(tree, standing, deed):
    """Whether this node can give up."""
    return phase_at(standing, deed[1]) == "voting"


def can_hear(tree, standing, deed):
    """Whether this end is on the way to this node, which ends by it or thanks for it."""
    node, end = deed[1:]
    phase = phase_at(standing, node)
    if (node, end) not in standing[1]:
        return False
    if is_ended_by(phase, end):
        return True
    if not thanks_for(tree, node, end) or (node, row_of(end)) in standing[1] or phase in ("active", "voting"):
        return False
    # A late one thanks by itself, when those below it have thanked.
    return not (is_late(tree, node) and phase == phase_of(end))


def can_be_thanked(tree, standing, deed):
    """Whether there are thanks of this node for which the one above it waits."""
    node = above(tree, deed[1])
    phase = phase_at(standing, node)
    if phase not in ("committing", "aborting") or deed[1] in heard_at(standing, node):
        return False
    end = end_of(phase)
    return thanks_for(tree, deed[1], end) and (deed[1], row_of(end)) in standing[1]


def can_ask(tree, standing, deed):
    """Whether this node waits for an end, and what is presumed is not on its way."""
    node = deed[1]
    if phase_at(standing, node) != "prepared" or phase_at(standing, above(tree, node)) not in ("unknown", "blank"):
        return False
    return (node, presumed_for(tree, node)) not in standing[1]


def can_fall(tree, standing, deed):
    """Whether this node can fall."""
    return phase_at(standing, deed[1]) not in ("idle", "blank")


TREE_CONDITIONS = {
    "begin": can_begin,
    "forward": can_forward,
    "yes": can_vote,
    "no": can_vote,
    "count": can_count,
    "refused": can_be_refused,
    "quit": can_quit,
    "hear": can_hear,
    "thanked": can_be_thanked,
    "ask": can_ask,
    "fall": can_fall,
}


def least_node(word):
    """The least node that can do a deed of this word: the root alone has none above it."""
    return 0 if word in ("quit", "fall") else 1


def is_built(tree, standing, value):
    """Whether value has the form of a deed of a node of tree, with rows kept that can be."""
    if not isinstance(value, tuple) or not value:
        return False
    word = value[0]
    if not isinstance(word, str) or word not in TREE_DEED_SHAPES:
        return False
    shape = TREE_DEED_SHAPES[word]
    if len(value) != 1 + len(shape):
        return False
    if "node" in shape and not is_integer_within(value[1], least_node(word), len(tree[1])):
        return False
    if "kept" in shape:
        phase, log, sure, heard = standing[0][value[1]]
        return is_integer_within(value[2], sure, len(log))
    return "end" not in shape or value[2] in ENDS


def is_open(tree, standing, deed):
    """Whether a deed that is built right can be done now."""
    condition = TREE_CONDITIONS[deed[0]]
    return condition(tree, standing, deed)


def can_be_done(tree, standing, value):
    """Whether value is a deed that can be done in standing."""
    return is_built(tree, standing, value) and is_open(tree, standing, value)


def built_deeds(tree, standing, word):
    """All deeds of this word that are built right in standing, ascending."""
    shape = TREE_DEED_SHAPES[word]
    if shape == ():
        return [(word,)]
    nodes = range(least_node(word), len(tree[1]) + 1)
    if shape == ("node",):
        return [(word, node) for node in nodes]
    if shape == ("node", "end"):
        return [(word, node, end) for node in nodes for end in ENDS]
    sites = standing[0]
    return [(word, node, kept) for node in nodes for kept in range(sites[node][2], len(sites[node][1]) + 1)]


def open_tree(tree, standing):
    """All deeds that can be done in standing, ascending."""
    can = []
    for word in sorted(TREE_DEED_SHAPES):
        can.extend([deed for deed in built_deeds(tree, standing, word) if is_open(tree, standing, deed)])
    return tuple(can)


def after_tree(tree, standing, deed):
    """The standing behind deed."""
    if not can_be_done(tree, standing, deed):
        raise Refused(deed)
    return done_in_tree(tree, standing, deed)


def led_tree(tree, deeds):
    """The standing behind deeds, done one behind another from the start."""
    if not isinstance(deeds, tuple):
        raise Unfit()
    if len(deeds) > MAX_DEEDS:
        raise TooMany(MAX_DEEDS)
    standing = start_tree(tree)
    for deed in deeds:
        standing = after_tree(tree, standing, deed)
    return standing

"""What is done in a tree by each deed. Whether it can be done is not asked here."""

from doubtbooks.deeds import end_of, phase_of, row_of, written
from doubtbooks.trees import above, below, is_late, presumed_for, row_strength, thanks_for


def phase_at(standing, node):
    """The phase of this node."""
    return standing[0][node][0]


def log_at(standing, node):
    """The log of this node."""
    return standing[0][node][1]


def heard_at(standing, node):
    """The nodes below this one that it has heard."""
    return standing[0][node][3]


def with_site(standing, node, phase, log, sure, heard):
    """The standing with this as the site of the node."""
    sites, letters, told = standing
    return (sites[:node] + ((phase, log, sure, heard),) + sites[node + 1:], letters, told)


def in_phase(standing, node, phase):
    """The standing with the node in this phase, having heard nobody."""
    old, log, sure, heard = standing[0][node]
    return with_site(standing, node, phase, log, sure, ())


def with_row(tree, standing, node, row):
    """The standing with this row written by the node, as surely as it does."""
    phase, log, sure, heard = standing[0][node]
    if row in log:
        return standing
    log, sure = written(log, sure, row, row_strength(tree, node, row))
    return with_site(standing, node, phase, log, sure, heard)


def with_heard(standing, node, other):
    """The standing with this other one among those whom the node has heard."""
    phase, log, sure, heard = standing[0][node]
    return with_site(standing, node, phase, log, sure, tuple(sorted(heard + (other,))))


def with_letters(standing, nodes, word):
    """The standing with this letter sent to, or by, these nodes."""
    sites, letters, told = standing
    sent = tuple([(node, word) for node in nodes])
    return (sites, tuple(sorted(set(letters + sent))), told)


def with_told(standing, end):
    """The standing with somebody told this end."""
    sites, letters, told = standing
    return (sites, letters, tuple(sorted(set(told + (end,)))))


def thanked_by(tree, standing, node, end):
    """The standing with the thanks of the node sent, if it thanks for this end."""
    if not thanks_for(tree, node, end):
        return standing
    return with_letters(standing, (node,), row_of(end))


def awaited(tree, node, end):
    """The nodes below this one that thank it for this end."""
    return tuple([other for other in below(tree, node) if thanks_for(tree, other, end)])


def forgotten(standing, node):
    """The standing behind the node's forgetting."""
    phase, log, sure, heard = standing[0][node]
    if log and "ended" not in log:
        log, sure = written(log, sure, "ended", "lazy")
    return with_site(standing, node, "unknown", log, sure, ())


def ended_leaf(tree, standing, node, end):
    """The standing behind a leaf's ending by this end."""
    # Who is not prepared has said no yes, so there is no row to be undone.
    if end == "commit" or phase_at(standing, node) == "prepared":
        standing = with_row(tree, standing, node, row_of(end))
    standing = in_phase(with_told(standing, end), node, row_of(end))
    return thanked_by(tree, standing, node, end)


def ended_upper(tree, standing, node, end):
    """The standing behind the ending by this end of a node that has others below it."""
    standing = with_told(with_row(tree, standing, node, row_of(end)), end)
    standing = with_letters(in_phase(standing, node, phase_of(end)), below(tree, node), end)
    if not awaited(tree, node, end):
        return forgotten(thanked_by(tree, standing, node, end), node)
    if is_late(tree, node):
        return standing
    return thanked_by(tree, standing, node, end)


def ended(tree, standing, node, end):
    """The standing behind the node's ending by this end."""
    if below(tree, node):
        return ended_upper(tree, standing, node, end)
    return ended_leaf(tree, standing, node, end)


def given_up(tree, standing, node):
    """The standing behind the node's giving up."""
    if node != 0:
        standing = with_letters(standing, (node,), "no")
    return ended(tree, standing, node, "abort")


def ask_below(tree, standing, node):
    """The standing behind the node's asking all below it to prepare."""
    standing = in_phase(with_row(tree, standing, node, "begun"), node, "voting")
    return with_letters(standing, below(tree, node), "prepare")


def say_yes(tree, standing, node):
    """The standing behind the node's saying yes."""
    standing = in_phase(with_row(tree, standing, node, "prepared"), node, "prepared")
    return with_letters(standing, (node,), "yes")


def begin(tree, standing, deed):
    """The root asks all below it."""
    return ask_below(tree, standing, 0)


def forward(tree, standing, deed):
    """A middle node asks all below it."""
    return ask_below(tree, standing, deed[1])


def vote_yes(tree, standing, deed):
    """A leaf is prepared, and says so."""
    return say_yes(tree, standing, deed[1])


def vote_no(tree, standing, deed):
    """A leaf aborts, and says so."""
    refusing = with_letters(standing, (deed[1],), "no")
    return in_phase(with_told(refusing, "abort"), deed[1], "aborted")


def count_yes(tree, standing, deed):
    """The node above counts a yes; with the last one the root commits, and a middle one says yes."""
    node = above(tree, deed[1])
    counted = with_heard(standing, node, deed[1])
    if heard_at(counted, node) != below(tree, node):
        return counted
    if node == 0:
        return ended(tree, counted, node, "commit")
    return say_yes(tree, counted, node)


def refuse(tree, standing, deed):
    """The node above gives up for a no."""
    return given_up(tree, standing, above(tree, deed[1]))


def give_up(tree, standing, deed):
    """A node gives up by itself."""
    return given_up(tree, standing, deed[1])


def is_ended_by(phase, end):
    """Whether a node in this phase, hearing this end, ends by it."""
    return phase == "prepared" or (end == "abort" and phase in ("active", "voting"))


def hear_end(tree, standing, deed):
    """A node hears an end: it ends by it, or thanks alone."""
    node, end = deed[1:]
    if is_ended_by(phase_at(standing, node), end):
        return ended(tree, standing, node, end)
    return thanked_by(tree, standing, node, end)


def hear_thanks(tree, standing, deed):
    """The node above hears thanks, and with the last ones thanks itself and forgets."""
    node = above(tree, deed[1])
    end = end_of(phase_at(standing, node))
    thanked = with_heard(standing, node, deed[1])
    if heard_at(thanked, node) != awaited(tree, node, end):
        return thanked
    return forgotten(thanked_by(tree, thanked, node, end), node)


def ask(tree, standing, deed):
    """A node asks, and what is presumed for it is sent."""
    return with_letters(standing, (deed[1],), presumed_for(tree, deed[1]))


def by_log(tree, standing, node):
    """The standing behind what the node does by the log with which it comes up."""
    log = log_at(standing, node)
    if "ended" in log:
        return in_phase(standing, node, "unknown")
    for row, end in (("committed", "commit"), ("aborted", "abort")):
        if row in log:
            if below(tree, node):
                return ended_upper(tree, standing, node, end)
            return in_phase(standing, node, row)
    if "prepared" in log:
        return in_phase(standing, node, "prepared")
    if "begun" in log:
        return given_up(tree, standing, node)
    if node == 0:
        return in_phase(standing, node, "unknown")
    return in_phase(with_told(standing, "abort"), node, "blank")


def fall(tree, standing, deed):
    """A node falls, and comes up with the rows that are kept."""
    node, kept = deed[1:]
    phase, log, sure, heard = standing[0][node]
    return by_log(tree, with_site(standing, node, phase, log[:kept], kept, ()), node)


TREE_DOERS = {
    "begin": begin,
    "forward": forward,
    "yes": vote_yes,
    "no": vote_no,
    "count": count_yes,
    "refused": refuse,
    "quit": give_up,
    "hear": hear_end,
    "thanked": hear_thanks,
    "ask": ask,
    "fall": fall,
}


def done_in_tree(tree, standing, deed):
    """The standing behind this deed, which can be done."""
    act = TREE_DOERS[deed[0]]
    return act(tree, standing, deed)

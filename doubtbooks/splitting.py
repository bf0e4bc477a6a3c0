"""Losing runs of protocols that are not safe, told by what is lacking."""

from doubtbooks.deeds import thankers
from doubtbooks.fitting import is_safe, lacks


def all_counted(protocol):
    """All say yes, and all are counted: commit is told."""
    places = range(len(protocol[1]))
    return (("begin",), *[("yes", i) for i in places], *[("count", i) for i in places])


def given_up(i):
    """One says yes, and the coordinator gives up: abort is told."""
    return (("begin",), ("yes", i), ("quit",))


def all_thanked(protocol, end):
    """All who thank for this end hear it and are heard: the coordinator forgets."""
    deeds = []
    for i in thankers(protocol, end):
        deeds.extend([("hear", i, end), ("thanked", i)])
    return tuple(deeds)


def asked(i, end):
    """One that is prepared asks a coordinator that knows nothing, and is told what is presumed."""
    return (("ask", i), ("hear", i, end))


def blank_and_aborted(i):
    """One whose work is sent loses all, and a coordinator that knows nothing cannot give it back."""
    return (("fall", i, 0), ("restore", i))


def lose_by_prepared(protocol, i):
    """Commit is told, and the work of i is gone."""
    return all_counted(protocol) + (("fall", i, 0),)


def lose_by_head_committed(protocol, i):
    """Commit is told, and the coordinator loses its row; None if what is presumed for i is right then."""
    head, manners = protocol
    if head[0] != "none":
        # Of its log begun alone is left, by which it aborts.
        return all_counted(protocol) + (("stop", 1),)
    if manners[i][4] == "abort":
        return all_counted(protocol) + (("stop", 0),) + asked(i, "abort")
    return None


def lose_by_begun(protocol, i):
    """Abort is told, and the coordinator, knowing nothing, tells i commit; None if it never does."""
    head, manners = protocol
    if len(manners) > 1:
        other = 1 if i == 0 else 0
        return (("begin",), ("yes", i), ("no", other), ("stop", 0)) + asked(i, "commit")
    if head[2] != "forced":
        return given_up(i) + (("stop", 0),) + asked(i, "commit")
    if manners[i][0] != "forced":
        # The letter of commit is on its way when the work is given up, and a fall lets it be taken.
        lost = (("begin",), ("yes", i), ("stop", 0), ("ask", i))
        return lost + blank_and_aborted(i) + (("fall", i, 0), ("hear", i, "commit"))
    return None


def lose_by_thanks_abort(protocol, i):
    """Abort is forgotten though i has not heard it, and i is told commit."""
    return given_up(i) + all_thanked(protocol, "abort") + asked(i, "commit")


def lose_by_aborted(protocol, i):
    """Abort is forgotten, i loses its row, is prepared again, and is told commit."""
    return given_up(i) + all_thanked(protocol, "abort") + (("fall", i, 1),) + asked(i, "commit")


def lose_by_thanks_commit(protocol, i):
    """Commit is forgotten though i has not heard it, and i aborts."""
    forgotten = all_counted(protocol) + all_thanked(protocol, "commit")
    if protocol[1][i][4] == "abort":
        return forgotten + asked(i, "abort")
    return forgotten + blank_and_aborted(i)


def lose_by_committed(protocol, i):
    """Commit is forgotten, i loses its row, is prepared again or blank, and aborts."""
    forgotten = all_counted(protocol) + all_thanked(protocol, "commit")
    if protocol[1][i][0] == "forced":
        return forgotten + (("fall", i, 1),) + asked(i, "abort")
    return forgotten + blank_and_aborted(i)


# In this order: each of them leans on nobody lacking what stands ahead.
LOSSES = {
    "prepared": lose_by_prepared,
    "head committed": lose_by_head_committed,
    "begun": lose_by_begun,
    "thanks abort": lose_by_thanks_abort,
    "aborted": lose_by_aborted,
    "thanks commit": lose_by_thanks_commit,
    "committed": lose_by_committed,
}


def splitting(protocol):
    """A losing run of protocol; None if it is safe."""
    if is_safe(protocol):
        return None
    head, manners = protocol
    for word in LOSSES:
        lose = LOSSES[word]
        for i in range(len(manners)):
            if word in lacks(head, manners[i]):
                run = lose(protocol, i)
                if run is not None:
                    return run
    return None


def watched(protocol):
    """The participants whose manners lack something, ascending; () if protocol is safe."""
    if is_safe(protocol):
        return ()
    head, manners = protocol
    return tuple([i for i in range(len(manners)) if lacks(head, manners[i])])

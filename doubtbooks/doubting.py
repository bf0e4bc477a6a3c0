"""Who may end while the coordinator is down, and who must wait."""

from doubtbooks.errors import Unfit
from doubtbooks.fitting import is_safe


def knows_unsaid(manner, phase):
    """Whether a participant of this manner, in this phase, knows that it never said yes."""
    if phase == "blank":
        # A row prepared that is forced would be there yet; work that was not sent is lost, and so is its yes.
        return not manner[5] or manner[0] == "forced"
    return phase == "active"


def may_end(protocol, view):
    """The end by which those who are up may end at once; "wait" if they must wait."""
    manners = protocol[1]
    if len(manners) == 1 or not is_safe(protocol):
        raise Unfit()
    if "committed" in view:
        return "commit"
    if "aborted" in view or any([knows_unsaid(manners[i], view[i]) for i in range(len(manners))]):
        return "abort"
    return "wait"


def unheard(view):
    """A run to a standing that has this view, in which all have said yes and none is counted."""
    deeds = [("begin",)]
    for i in range(len(view)):
        deeds.append(("read", i) if view[i] == "out" else ("yes", i))
    # Their yes is on its way already: what is lost by these falls changes nothing of it.
    deeds.extend([("fall", i, 0) for i in range(len(view)) if view[i] == "blank"])
    return tuple(deeds)


def twins(protocol, view):
    """Two runs that look alike in this view, one that tells commit and one that tells abort; None if none must wait."""
    if may_end(protocol, view) != "wait":
        return None
    deeds = unheard(view)
    return (deeds + tuple([("count", i) for i in range(len(view))]), deeds + (("quit",),))

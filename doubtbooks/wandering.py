"""All standings that come, and shortest runs to some of them."""

from doubtbooks.bounds import MAX_COME
from doubtbooks.deeds import done
from doubtbooks.ending import is_split
from doubtbooks.errors import TooMany, Unfit
from doubtbooks.kinds import is_tuple_of
from doubtbooks.moving import open_deeds
from doubtbooks.standings import COORDINATOR_PHASES, PARTICIPANT_PHASES, start


def standings_from(protocol, first):
    """All standings that come from first, nearest ones first, each with the step that led to it.

    A step is a pair of the standing ahead and of the deed done there; None for first.
    """
    steps = {first: None}
    waiting = [first]
    at = 0
    while at < len(waiting):
        standing = waiting[at]
        at += 1
        for deed in open_deeds(protocol, standing):
            behind = done(protocol, standing, deed)
            if behind not in steps:
                if len(steps) == MAX_COME:
                    raise TooMany(MAX_COME)
                steps[behind] = (standing, deed)
                waiting.append(behind)
    return steps


def run_to(steps, standing):
    """The shortest run that steps tell of to standing."""
    deeds = []
    step = steps[standing]
    while step is not None:
        standing, deed = step
        deeds.append(deed)
        step = steps[standing]
    return tuple(reversed(deeds))


def come(protocol):
    """How many standings come."""
    return len(standings_from(protocol, start(protocol)))


def shortest_split(protocol):
    """A shortest run to a split standing; None if there is none."""
    steps = standings_from(protocol, start(protocol))
    for standing in steps:
        if is_split(standing):
            return run_to(steps, standing)
    return None


def ends_yet(protocol, standing):
    """The ends that are told in some standing that comes from standing."""
    told = set()
    for later in standings_from(protocol, standing):
        for end in later[3]:
            told.add(end)
    return tuple(sorted(told))


def are_phases(value, many):
    """Whether value is a phase, or None, for the coordinator and for each of so many participants."""
    if not is_tuple_of(value, many + 1):
        return False
    if value[0] is not None and value[0] not in COORDINATOR_PHASES:
        return False
    return all(phase is None or phase in PARTICIPANT_PHASES for phase in value[1:])


def has_phases(standing, wanted):
    """Whether the sites of standing have the wanted phases."""
    phases = [standing[0][0]] + [participant[0] for participant in standing[1]]
    return all(wanted[k] is None or wanted[k] == phases[k] for k in range(len(phases)))


def meetings(protocol, wanted):
    """A shortest run to a standing with the wanted phases; None if there is none."""
    if not are_phases(wanted, len(protocol[1])):
        raise Unfit()
    steps = standings_from(protocol, start(protocol))
    for standing in steps:
        if has_phases(standing, wanted):
            return run_to(steps, standing)
    return None

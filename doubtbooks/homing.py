"""The way home when nobody falls any more, and the fall of all."""

from doubtbooks.deeds import done
from doubtbooks.ending import is_home
from doubtbooks.moving import can_be_done
from doubtbooks.protocols import ENDS


def home_deeds(protocol):
    """The deeds that lead home, in the order in which they are tried."""
    places = range(len(protocol[1]))
    deeds = [("begin",), ("quit",)]
    for i in places:
        deeds.extend([("hear", i, end) for end in ENDS])
    for word in ("thanked", "ask", "restore", "no"):
        deeds.extend([(word, i) for i in places])
    return deeds


def first_open(protocol, standing, deeds):
    """The first of deeds that can be done in standing; None if none can."""
    for deed in deeds:
        if can_be_done(protocol, standing, deed):
            return deed
    return None


def way_home(protocol, standing):
    """The deeds that lead home from standing, none of them a fall."""
    tried = home_deeds(protocol)
    way = []
    while not is_home(protocol, standing):
        deed = first_open(protocol, standing, tried)
        standing = done(protocol, standing, deed)
        way.append(deed)
    return tuple(way)


def rows_kept(log, sure, lost):
    """How many rows a fall leaves of this log."""
    return sure if lost else len(log)


def all_fall(protocol, standing, lost):
    """The standing behind the fall of everybody that can fall."""
    phase, log, sure, heard = standing[0]
    if phase != "idle":
        standing = done(protocol, standing, ("stop", rows_kept(log, sure, lost)))
    for i in range(len(protocol[1])):
        phase, log, sure = standing[1][i]
        if phase not in ("blank", "out"):
            standing = done(protocol, standing, ("fall", i, rows_kept(log, sure, lost)))
    return standing

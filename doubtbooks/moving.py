"""Which deeds can be done in a standing, and the standings behind them."""

from doubtbooks.bounds import MAX_DEEDS
from doubtbooks.deeds import done, end_of, row_of, takes
from doubtbooks.errors import Refused, TooMany
from doubtbooks.kinds import is_integer_within
from doubtbooks.protocols import ENDS
from doubtbooks.standings import start

# One place for the items behind each word, so that errors, lists and texts of deeds cannot differ.
DEED_SHAPES = {
    "begin": (),
    "yes": ("participant",),
    "no": ("participant",),
    "read": ("participant",),
    "count": ("participant",),
    "refused": ("participant",),
    "quit": (),
    "thanked": ("participant",),
    "hear": ("participant", "end"),
    "ask": ("participant",),
    "restore": ("participant",),
    "stop": ("kept",),
    "fall": ("participant", "kept"),
}


def can_begin(protocol, standing, deed):
    """Whether the coordinator has not begun."""
    return standing[0][0] == "idle"


def can_vote(protocol, standing, deed):
    """Whether this participant can say yes or no."""
    i = deed[1]
    return standing[1][i][0] == "active" and (i, "prepare") in standing[2]


def can_count(protocol, standing, deed):
    """Whether there is a yes of this participant to count."""
    i = deed[1]
    return standing[0][0] == "voting" and (i, "yes") in standing[2] and i not in standing[0][3]


def can_be_refused(protocol, standing, deed):
    """Whether there is a no of this participant to hear."""
    return standing[0][0] == "voting" and (deed[1], "no") in standing[2]


def can_quit(protocol, standing, deed):
    """Whether the coordinator can give up."""
    return standing[0][0] == "voting"


def can_be_thanked(protocol, standing, deed):
    """Whether there are thanks of this participant that the coordinator waits for."""
    i = deed[1]
    phase = standing[0][0]
    if phase not in ("committing", "aborting") or i in standing[0][3]:
        return False
    end = end_of(phase)
    return end in protocol[1][i][3] and (i, row_of(end)) in standing[2]


def can_hear(protocol, standing, deed):
    """Whether this end is on the way to this participant, and is taken or thanked for."""
    i, end = deed[1:]
    manner = protocol[1][i]
    phase = standing[1][i][0]
    if (i, end) not in standing[2]:
        return False
    if takes(manner, phase, end):
        return True
    return phase != "active" and end in manner[3] and (i, row_of(end)) not in standing[2]


def can_ask(protocol, standing, deed):
    """Whether this participant waits for an end, and what is presumed is not on its way."""
    i = deed[1]
    if standing[1][i][0] != "prepared" or standing[0][0] != "unknown":
        return False
    return (i, protocol[1][i][4]) not in standing[2]


def can_restore(protocol, standing, deed):
    """Whether this participant is blank, and can ask for its work."""
    i = deed[1]
    return standing[1][i][0] == "blank" and protocol[1][i][5] and standing[0][0] in ("voting", "unknown")


def can_stop(protocol, standing, deed):
    """Whether the coordinator can fall."""
    return standing[0][0] != "idle"


def can_fall(protocol, standing, deed):
    """Whether this participant can fall."""
    return standing[1][deed[1]][0] not in ("blank", "out")


CONDITIONS = {
    "begin": can_begin,
    "yes": can_vote,
    "no": can_vote,
    "read": can_vote,
    "count": can_count,
    "refused": can_be_refused,
    "quit": can_quit,
    "thanked": can_be_thanked,
    "hear": can_hear,
    "ask": can_ask,
    "restore": can_restore,
    "stop": can_stop,
    "fall": can_fall,
}


def can_be_done(protocol, standing, deed):
    """Whether a deed that is built right can be done now."""
    condition = CONDITIONS[deed[0]]
    return condition(protocol, standing, deed)


def is_built(value):
    """Whether value has the word and the number of items of a deed, and an end in its place."""
    if not isinstance(value, tuple) or not value:
        return False
    word = value[0]
    if not isinstance(word, str) or word not in DEED_SHAPES:
        return False
    if len(value) != 1 + len(DEED_SHAPES[word]):
        return False
    return word != "hear" or value[2] in ENDS


def kept_fits(site, kept):
    """Whether this site can fall with so many rows kept."""
    return is_integer_within(kept, site[2], len(site[1]))


def deed_error(protocol, standing, value):
    """None if value is a deed that can be done in standing, otherwise what is wrong first."""
    if not is_built(value):
        return "form"
    shape = DEED_SHAPES[value[0]]
    if "participant" in shape and not is_integer_within(value[1], 0, len(protocol[1]) - 1):
        return "participant"
    if value[0] == "stop" and not kept_fits(standing[0], value[1]):
        return "kept"
    if value[0] == "fall" and not kept_fits(standing[1][value[1]], value[2]):
        return "kept"
    if not can_be_done(protocol, standing, value):
        return "closed"
    return None


def built_deeds(standing, word):
    """All deeds of this word that are built right in standing."""
    coordinator, participants = standing[:2]
    shape = DEED_SHAPES[word]
    places = range(len(participants))
    if shape == ():
        return [(word,)]
    if shape == ("kept",):
        return [(word, kept) for kept in range(coordinator[2], len(coordinator[1]) + 1)]
    if shape == ("participant",):
        return [(word, i) for i in places]
    if shape == ("participant", "end"):
        return [(word, i, end) for i in places for end in ENDS]
    return [(word, i, kept) for i in places for kept in range(participants[i][2], len(participants[i][1]) + 1)]


def open_deeds(protocol, standing):
    """All deeds that can be done in standing, ascending."""
    can = []
    for word in sorted(DEED_SHAPES):
        for deed in built_deeds(standing, word):
            if can_be_done(protocol, standing, deed):
                can.append(deed)
    return tuple(can)


def after(protocol, standing, deed):
    """The standing behind deed."""
    if deed_error(protocol, standing, deed) is not None:
        raise Refused(deed)
    return done(protocol, standing, deed)


def led(protocol, deeds):
    """The standing behind deeds, done one behind another from the start."""
    if len(deeds) > MAX_DEEDS:
        raise TooMany(MAX_DEEDS)
    standing = start(protocol)
    for deed in deeds:
        standing = after(protocol, standing, deed)
    return standing

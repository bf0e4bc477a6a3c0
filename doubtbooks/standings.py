"""Standings: their shape, and the one with which each run begins."""

from doubtbooks.kinds import are_ascending, is_integer_within, is_tuple_of
from doubtbooks.protocols import ASCENDING_ENDS

COORDINATOR_PHASES = ("idle", "voting", "committing", "aborting", "unknown")
COORDINATOR_ROWS = ("begun", "committed", "aborted", "ended")
MOST_COORDINATOR_ROWS = 3
PARTICIPANT_PHASES = ("active", "prepared", "committed", "aborted", "blank", "out")
PARTICIPANT_ROWS = ("prepared", "committed", "aborted")
MOST_PARTICIPANT_ROWS = 2
LETTER_WORDS = ("prepare", "commit", "abort", "yes", "no", "committed", "aborted")


def start(protocol):
    """The standing with which each run of protocol begins."""
    participants = (("active", (), 0),) * len(protocol[1])
    return (("idle", (), 0, ()), participants, (), ())


def is_log(log, sure, words, most):
    """Whether log is at most so many unlike rows among words, and sure fits it."""
    if not isinstance(log, tuple) or len(log) > most:
        return False
    for row in log:
        if row not in words:
            return False
    return len(set(log)) == len(log) and is_integer_within(sure, 0, len(log))


def is_heard(value, many):
    """Whether value is an ascending tuple of some of so many participants."""
    if not isinstance(value, tuple):
        return False
    for i in value:
        if not is_integer_within(i, 0, many - 1):
            return False
    return are_ascending(value)


def is_coordinator(value, many):
    """Whether value has the shape of a coordinator of so many participants."""
    if not is_tuple_of(value, 4):
        return False
    phase, log, sure, heard = value
    if phase not in COORDINATOR_PHASES or not is_log(log, sure, COORDINATOR_ROWS, MOST_COORDINATOR_ROWS):
        return False
    return is_heard(heard, many)


def is_participant(value):
    """Whether value has the shape of a participant."""
    if not is_tuple_of(value, 3):
        return False
    phase, log, sure = value
    return phase in PARTICIPANT_PHASES and is_log(log, sure, PARTICIPANT_ROWS, MOST_PARTICIPANT_ROWS)


def are_letters(value, many):
    """Whether value is an ascending tuple of letters to or from so many participants."""
    if not isinstance(value, tuple):
        return False
    for letter in value:
        if not is_tuple_of(letter, 2):
            return False
        if not is_integer_within(letter[0], 0, many - 1) or letter[1] not in LETTER_WORDS:
            return False
    return are_ascending(value)


def standing_error(protocol, value):
    """None if value has the shape of a standing of protocol, otherwise what is wrong first."""
    many = len(protocol[1])
    if not is_tuple_of(value, 4) or not is_tuple_of(value[1], many):
        return "form"
    coordinator, participants, letters, told = value
    if not is_coordinator(coordinator, many):
        return "coordinator"
    for i in range(many):
        if not is_participant(participants[i]):
            return ("participant", i)
    if not are_letters(letters, many):
        return "letters"
    if told not in ASCENDING_ENDS:
        return "told"
    return None

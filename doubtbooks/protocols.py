"""Heads, manners, protocols: what they are, and protocols of like manners."""

from doubtbooks.bounds import MAX_PARTICIPANTS
from doubtbooks.errors import Unfit
from doubtbooks.kinds import is_integer_within, is_tuple_of

STRENGTHS = ("none", "lazy", "forced")
ENDS = ("abort", "commit")
# Written out, as there are but four: thanks and what was told are compared with them.
ASCENDING_ENDS = ((), ("abort",), ("commit",), ("abort", "commit"))


def strength_error(items):
    """None if all items are strengths, otherwise where the first other one is."""
    for i in range(len(items)):
        if items[i] not in STRENGTHS:
            return ("strength", i)
    return None


def head_error(value):
    """None if value is a head, otherwise what is wrong with it first."""
    if not is_tuple_of(value, 3):
        return "form"
    return strength_error(value)


def manner_error(value):
    """None if value is a manner, otherwise what is wrong with it first."""
    if not is_tuple_of(value, 6):
        return "form"
    error = strength_error(value[:3])
    if error is not None:
        return error
    thanks, presumed, sent = value[3:]
    if thanks not in ASCENDING_ENDS:
        return "thanks"
    if presumed not in ENDS:
        return "presumed"
    if not isinstance(sent, bool):
        return "sent"
    return None


def protocol_error(value):
    """None if value is a protocol, otherwise what is wrong with it first."""
    if not is_tuple_of(value, 2):
        return "form"
    head, manners = value
    error = head_error(head)
    if error is not None:
        return ("head", error)
    if not isinstance(manners, tuple) or not 1 <= len(manners) <= MAX_PARTICIPANTS:
        return "manners"
    for i in range(len(manners)):
        error = manner_error(manners[i])
        if error is not None:
            return ("manner", i, error)
    return None


def alike_for(head, manner, many):
    """The protocol of this head in which so many participants go by one manner."""
    if not is_integer_within(many, 1, MAX_PARTICIPANTS):
        raise Unfit()
    return (head, (manner,) * many)

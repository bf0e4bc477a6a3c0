"""Whether a value is a losing run."""

from doubtbooks.deeds import done
from doubtbooks.ending import is_split
from doubtbooks.moving import deed_error
from doubtbooks.standings import start


def most_deeds(protocol):
    """How many deeds a losing run of protocol may have."""
    return 4 * len(protocol[1]) + 4


def splitting_error(protocol, value):
    """None if value is a losing run of protocol, otherwise what is wrong with it first."""
    if not isinstance(value, tuple):
        return "form"
    standing = start(protocol)
    for k in range(len(value)):
        if deed_error(protocol, standing, value[k]) is not None:
            return ("deed", k)
        standing = done(protocol, standing, value[k])
    if not is_split(standing):
        return "whole"
    if len(value) > most_deeds(protocol):
        return "long"
    return None

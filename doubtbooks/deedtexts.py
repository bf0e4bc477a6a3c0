"""The texts of deeds and of runs, written and read."""

from doubtbooks.bounds import MAX_DEEDS, MAX_PARTICIPANTS
from doubtbooks.errors import BadText
from doubtbooks.moving import DEED_SHAPES
from doubtbooks.protocols import ENDS
from doubtbooks.standings import MOST_COORDINATOR_ROWS


def deed_text(deed):
    """The text of this deed."""
    return " ".join([str(item) for item in deed])


def run_text(deeds):
    """The text of deeds, a line each."""
    return "\n".join([deed_text(deed) for deed in deeds])


def read_number(word, most):
    """The number from 0 to most that is written so, or None."""
    # The numbers are few: to compare with each keeps out signs, blanks and noughts ahead.
    for number in range(most + 1):
        if word == str(number):
            return number
    return None


def read_item(kind, word):
    """The item of this kind that is written so, or None."""
    if kind == "participant":
        return read_number(word, MAX_PARTICIPANTS - 1)
    if kind == "kept":
        # No log of a site is longer than that of a coordinator can be.
        return read_number(word, MOST_COORDINATOR_ROWS)
    return word if word in ENDS else None


def read_deed(line):
    """The deed of which this is the text, or None."""
    word, *rest = line.split(" ")
    if word not in DEED_SHAPES:
        return None
    shape = DEED_SHAPES[word]
    if len(rest) != len(shape):
        return None
    items = [read_item(shape[k], rest[k]) for k in range(len(shape))]
    if None in items:
        return None
    return (word, *items)


def read_run(value):
    """The tuple of deeds of which value is the text."""
    if not isinstance(value, str):
        raise BadText(0)
    if value == "":
        return ()
    deeds = []
    for line, text in enumerate(value.split("\n")):
        deed = read_deed(text)
        if deed is None or line == MAX_DEEDS:
            raise BadText(line)
        deeds.append(deed)
    return tuple(deeds)

"""The texts of the logs of sites, written and read."""

from doubtbooks.bounds import MAX_SITE_ROWS
from doubtbooks.errors import BadLog
from doubtbooks.managers import is_name

SITE_ROWS = ("begun", "committed", "aborted", "ended", "prepared")


def site_text(rows, sure):
    """The text of a log of these rows, so many of which are sure."""
    lines = []
    for k in range(len(rows)):
        name, row = rows[k]
        lines.append(f"{name} {row} sure\n" if k < sure else f"{name} {row}\n")
    return "".join(lines)


def read_row(line):
    """The triple of name, row and whether it is sure, of which this is the line; None if there is none."""
    words = line.split(" ")
    is_sure = words[2:] == ["sure"]
    if len(words) != (3 if is_sure else 2):
        return None
    if not is_name(words[0]) or words[1] not in SITE_ROWS:
        return None
    return (words[0], words[1], is_sure)


def read_site(value):
    """The pair of rows, and of how many are sure, of which value is the text."""
    if not isinstance(value, str):
        raise BadLog(0)
    *lines, last = value.split("\n")
    if last != "":
        lines.append(last)
    rows = []
    sure = 0
    for k in range(len(lines)):
        row = read_row(lines[k])
        if row is None or k == MAX_SITE_ROWS or (row[2] and sure < k):
            raise BadLog(k)
        rows.append(row[:2])
        if row[2]:
            sure += 1
    if last != "":
        raise BadLog(len(lines) - 1)
    return (tuple(rows), sure)

"""The texts of protocols, written and read."""

from doubtbooks.bounds import MAX_PARTICIPANTS
from doubtbooks.errors import BadProtocol, BadText
from doubtbooks.protocols import head_error, manner_error

THANKS_BY_WORD = {"none": (), "abort": ("abort",), "commit": ("commit",), "both": ("abort", "commit")}


def ends_word(ends):
    """The word for these ends."""
    if len(ends) == 2:
        return "both"
    return ends[0] if ends else "none"


def manner_line(manner):
    """The line of a participant that goes by this manner."""
    prepared, committed, aborted, thanks, presumed, sent = manner
    line = f"manner {prepared} {committed} {aborted} thanks {ends_word(thanks)} presumed {presumed}"
    return line + " sent" if sent else line


def protocol_text(protocol):
    """The text of protocol."""
    head, manners = protocol
    lines = [" ".join(["head", *head])] + [manner_line(manner) for manner in manners]
    return "\n".join(lines)


def read_head(line):
    """The head of which this is the line, or None."""
    words = line.split(" ")
    head = tuple(words[1:])
    if words[0] != "head" or head_error(head) is not None:
        return None
    return head


def read_manner(line):
    """The manner of which this is the line, or None."""
    words = line.split(" ")
    sent = words[8:] == ["sent"]
    if len(words) != (9 if sent else 8):
        return None
    if words[0] != "manner" or words[4] != "thanks" or words[6] != "presumed":
        return None
    if words[5] not in THANKS_BY_WORD:
        return None
    manner = (words[1], words[2], words[3], THANKS_BY_WORD[words[5]], words[7], sent)
    return manner if manner_error(manner) is None else None


def read_protocol(value):
    """The protocol of which value is the text."""
    if not isinstance(value, str):
        raise BadText(0)
    lines = value.split("\n")
    head = read_head(lines[0])
    if head is None:
        raise BadText(0)
    manners = []
    for k in range(1, len(lines)):
        manner = read_manner(lines[k])
        if manner is None:
            raise BadText(k)
        manners.append(manner)
    if not 1 <= len(manners) <= MAX_PARTICIPANTS:
        raise BadProtocol("manners")
    return (head, tuple(manners))

"""Shells: a manager that is told by lines what to do, and answers each of them."""

from doubtbooks.costs import counts, plain_run
from doubtbooks.deedtexts import read_run, run_text
from doubtbooks.errors import BadProtocol, BadText, Refused, TooMany, Unfit
from doubtbooks.fitting import is_safe, lacks
from doubtbooks.knownways import abort_with_work, commit_with_work, presumed_abort, presumed_commit
from doubtbooks.managerlogs import site_text
from doubtbooks.managers import Manager, is_name
from doubtbooks.moving import open_deeds
from doubtbooks.protocols import ENDS, alike_for
from doubtbooks.protocoltexts import ends_word, read_protocol

MOST_FIGURES = 3


def known_ways():
    """The ways that can be told by a word, by these words."""
    return {
        "presumed_abort": presumed_abort(),
        "abort_with_work": abort_with_work(),
        "presumed_commit": presumed_commit(),
        "commit_with_work": commit_with_work(),
    }


def joined(words, sign):
    """The words with this sign between two; "none" if there are none."""
    return sign.join(words) if words else "none"


def renew(shell, protocol):
    """The shell gets a new manager for protocol."""
    shell.manager = Manager(protocol)
    return "safe" if is_safe(protocol) else "splits"


def answer_protocol(shell, text):
    """A new manager by the text of a protocol."""
    return renew(shell, read_protocol(text))


def answer_way(shell, way, many):
    """A new manager by a known way."""
    head, manner = way
    return renew(shell, alike_for(head, manner, many))


def answer_enter(shell, name):
    """A new transaction."""
    shell.manager.enter(name)
    return "done"


def answer_do(shell, name, text):
    """A transaction does a deed."""
    deeds = read_run(text)
    if len(deeds) != 1:
        raise BadText(0)
    shell.manager.do(name, deeds[0])
    return "done"


def answer_fall(shell, site, kept):
    """A site falls."""
    shell.manager.fall(site, kept)
    return "done"


def answer_home(shell):
    """All go home."""
    many = shell.manager.go_home()
    return f"{many} deeds"


def answer_state(shell, name):
    """The phases of a transaction."""
    coordinator, participants, letters, told = shell.manager.standing_of(name)
    return joined([coordinator[0]] + [participant[0] for participant in participants], " ")


def answer_told(shell, name):
    """The ends that were told in a transaction."""
    return ends_word(shell.manager.standing_of(name)[3])


def answer_open(shell, name):
    """The deeds that a transaction can do, but the falls."""
    can = open_deeds(shell.manager.protocol, shell.manager.standing_of(name))
    return joined([run_text((deed,)) for deed in can if deed[0] not in ("stop", "fall")], "; ")


def answer_last(shell, name):
    """The last deed of a transaction."""
    return joined([run_text((deed,)) for deed in shell.manager.deeds_of(name)[-1:]], " ")


def answer_log(shell, site):
    """The log of a site."""
    rows, sure = shell.manager.log_of(site)
    return site_text(rows, sure)


def answer_names(shell):
    """The names of all transactions."""
    return joined(shell.manager.names, " ")


def answer_splits(shell):
    """The names of the transactions that are split."""
    return joined(shell.manager.split_names(), " ")


def answer_counts(shell, end):
    """What a plain run to this end costs."""
    protocol = shell.manager.protocol
    return joined([str(number) for number in counts(protocol, plain_run(protocol, end, ()))], " ")


def answer_lacks(shell, i):
    """What the manner of a participant lacks."""
    head, manners = shell.manager.protocol
    if i >= len(manners):
        raise Unfit()
    return joined(lacks(head, manners[i]), ", ")


LINE_SHAPES = {
    "protocol": ("text",),
    "way": ("way", "number"),
    "enter": ("name",),
    "do": ("name", "text"),
    "fall": ("number", "number"),
    "home": (),
    "state": ("name",),
    "told": ("name",),
    "open": ("name",),
    "last": ("name",),
    "log": ("number",),
    "names": (),
    "splits": (),
    "counts": ("end",),
    "lacks": ("number",),
}

ANSWERS = {
    "protocol": answer_protocol,
    "way": answer_way,
    "enter": answer_enter,
    "do": answer_do,
    "fall": answer_fall,
    "home": answer_home,
    "state": answer_state,
    "told": answer_told,
    "open": answer_open,
    "last": answer_last,
    "log": answer_log,
    "names": answer_names,
    "splits": answer_splits,
    "counts": answer_counts,
    "lacks": answer_lacks,
}

MAKING = ("protocol", "way")


def read_number(word):
    """The number that is written so, in decimal without noughts ahead; None if it is none, or too great."""
    if not 1 <= len(word) <= MOST_FIGURES or (word[0] == "0" and word != "0"):
        return None
    if not all(sign in "0123456789" for sign in word):
        return None
    return int(word)


def read_item(kind, word):
    """The item of this kind that is written so; None if there is none."""
    if kind == "number":
        return read_number(word)
    if kind == "name":
        return word if is_name(word) else None
    if kind == "way":
        return known_ways().get(word)
    if kind == "end":
        return word if word in ENDS else None
    return word


def read_line(line):
    """The word of a line and the items behind it; None if it is no line as told."""
    word = line.partition(" ")[0]
    if word not in LINE_SHAPES:
        return None
    shape = LINE_SHAPES[word]
    # A text is all that is left, with all its blanks.
    words = line.split(" ", len(shape)) if "text" in shape else line.split(" ")
    if len(words) != 1 + len(shape):
        return None
    items = [read_item(shape[k], words[k + 1]) for k in range(len(shape))]
    return None if None in items else (word, *items)


def answered(shell, word, items):
    """The answer to a line as told, an error being told by its name."""
    answer = ANSWERS[word]
    try:
        return answer(shell, *items)
    except BadText:
        return "error BadText"
    except BadProtocol:
        return "error BadProtocol"
    except Unfit:
        return "error Unfit"
    except TooMany:
        return "error TooMany"
    except Refused:
        return "error Refused"


class Shell:
    """A manager, once there is one, that is led by lines."""

    def __init__(self):
        self.manager = None

    def say(self, line):
        """Does what the line says, and returns the answer."""
        told = read_line(line) if isinstance(line, str) else None
        if told is None:
            return "what"
        word, *items = told
        if self.manager is None and word not in MAKING:
            return "no manager"
        return answered(self, word, items)

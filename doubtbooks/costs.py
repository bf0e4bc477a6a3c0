"""What runs cost: rows, letters, and works that are sent."""

from doubtbooks.deeds import done, thankers
from doubtbooks.moving import led
from doubtbooks.standings import start


def votes_on(many, end, readers):
    """The deeds of a plain run of so many participants, up to the decision for this end."""
    deeds = [("begin",)]
    deeds.extend([("read", i) if i in readers else ("yes", i) for i in range(many)])
    if end == "commit":
        return deeds + [("count", i) for i in range(many)]
    # With the last yes counted it would be commit.
    return deeds + [("count", i) for i in range(many - 1)] + [("quit",)]


def plain_run(protocol, end, readers):
    """The run to this end in which nothing falls and no letter is lost."""
    many = len(protocol[1])
    thanking = thankers(protocol, end)
    deeds = votes_on(many, end, readers)
    deeds.extend([("hear", i, end) for i in range(many) if i not in readers or i in thanking])
    deeds.extend([("thanked", i) for i in thanking])
    return tuple(deeds)


def own_rows_written(protocol, standing, deed, behind):
    """The strengths of the rows that the coordinator writes by this deed."""
    begun, committed, aborted = protocol[0]
    strengths = {"begun": begun, "committed": committed, "aborted": aborted, "ended": "lazy"}
    # What a fall leaves was written before; what is behind it is written anew.
    there = deed[1] if deed[0] == "stop" else len(standing[0][1])
    return [strengths[row] for row in behind[0][1][there:]]


def their_rows_written(protocol, standing, behind):
    """The strengths of the rows that participants write by a deed."""
    strengths = []
    for i in range(len(protocol[1])):
        prepared, committed, aborted = protocol[1][i][:3]
        by_row = {"prepared": prepared, "committed": committed, "aborted": aborted}
        there = len(standing[1][i][1])
        strengths.extend([by_row[row] for row in behind[1][i][1][there:]])
    return strengths


def decides(standing, deed, behind):
    """Whether the coordinator decides an end by this deed."""
    if deed[0] == "stop":
        kept = standing[0][1][:deed[1]]
        return kept != () and "ended" not in kept
    return standing[0][0] == "voting" and behind[0][0] != "voting"


def letters_sent(protocol, standing, deed, behind):
    """How many letters are sent by this deed, those that were sent before among them."""
    if deed[0] == "begin" or decides(standing, deed, behind):
        return len(protocol[1])
    if deed[0] in ("yes", "no", "read", "ask"):
        return 1
    if deed[0] == "hear":
        # Whether the end is taken or not: who thanks for it thanks by each hear.
        return int(deed[2] in protocol[1][deed[1]][3])
    return 0


def deed_counts(protocol, standing, deed, behind):
    """What this deed costs, which leads from standing to behind."""
    own = own_rows_written(protocol, standing, deed, behind)
    theirs = their_rows_written(protocol, standing, behind)
    works = int(deed[0] == "yes" and protocol[1][deed[1]][5])
    return (
        own.count("forced"), own.count("lazy"), theirs.count("forced"), theirs.count("lazy"),
        letters_sent(protocol, standing, deed, behind), works)


def counts(protocol, deeds):
    """What this run costs: (forced, lazy, theirs, loose, letters, works)."""
    # What is no run is told there, by the same errors.
    led(protocol, deeds)
    standing = start(protocol)
    costs = (0,) * 6
    for deed in deeds:
        behind = done(protocol, standing, deed)
        more = deed_counts(protocol, standing, deed, behind)
        costs = tuple([costs[k] + more[k] for k in range(len(costs))])
        standing = behind
    return costs

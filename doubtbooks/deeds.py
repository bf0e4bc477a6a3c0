"""What is done by each deed. Whether it can be done is not asked here."""


def row_of(end):
    """The word for this end: of the row, of the phase of a participant, and of its thanks."""
    return "committed" if end == "commit" else "aborted"


def phase_of(end):
    """The phase of a coordinator that has decided this end."""
    return "committing" if end == "commit" else "aborting"


def end_of(phase):
    """The end that a coordinator in this phase has decided."""
    return "commit" if phase == "committing" else "abort"


def strength_of(strengths, end):
    """How surely the row of this end is written: strengths is a head, or a manner."""
    return strengths[1] if end == "commit" else strengths[2]


def thankers(protocol, end):
    """The participants that thank for this end."""
    manners = protocol[1]
    return [i for i in range(len(manners)) if end in manners[i][3]]


def takes(manner, phase, end):
    """Whether a participant of this manner, being in this phase, takes this end."""
    if phase == "blank":
        return manner[5]
    return phase == "prepared" or (phase == "active" and end == "abort")


def written(log, sure, row, strength):
    """The log, and how many of its rows are sure, when row is written with this strength."""
    if strength == "none":
        return (log, sure)
    longer = log + (row,)
    return (longer, len(longer) if strength == "forced" else sure)


def with_coordinator(standing, phase, log, sure, heard):
    """The standing with this coordinator."""
    return ((phase, log, sure, heard), standing[1], standing[2], standing[3])


def with_participant(standing, i, phase, log, sure):
    """The standing with this as the participant i."""
    coordinator, participants, letters, told = standing
    return (coordinator, participants[:i] + ((phase, log, sure),) + participants[i + 1:], letters, told)


def with_heard(standing, i):
    """The standing with i among those whom the coordinator has heard."""
    phase, log, sure, heard = standing[0]
    return with_coordinator(standing, phase, log, sure, tuple(sorted(heard + (i,))))


def with_letters(standing, sent):
    """The standing with these letters sent; those that were sent already stay as they are."""
    coordinator, participants, letters, told = standing
    return (coordinator, participants, tuple(sorted(set(letters + sent))), told)


def with_letter(standing, i, word):
    """The standing with one letter sent to or by the participant i."""
    return with_letters(standing, ((i, word),))


def with_letter_to_all(standing, word):
    """The standing with this letter sent to all participants."""
    return with_letters(standing, tuple([(i, word) for i in range(len(standing[1]))]))


def with_told(standing, end):
    """The standing with somebody told this end."""
    coordinator, participants, letters, told = standing
    return (coordinator, participants, letters, tuple(sorted(set(told + (end,)))))


def forgotten(standing):
    """The standing behind the coordinator's forgetting."""
    phase, log, sure, heard = standing[0]
    # By an empty log a fall finds nothing that would have to be ended.
    if log:
        log = log + ("ended",)
    return with_coordinator(standing, "unknown", log, sure, ())


def decided(protocol, standing, end):
    """The standing behind the coordinator's decision for this end."""
    phase, log, sure, heard = standing[0]
    if row_of(end) not in log:
        log, sure = written(log, sure, row_of(end), strength_of(protocol[0], end))
    decision = with_coordinator(standing, phase_of(end), log, sure, ())
    decision = with_letter_to_all(with_told(decision, end), end)
    if not thankers(protocol, end):
        return forgotten(decision)
    return decision


def begin(protocol, standing, deed):
    """The coordinator asks all to prepare."""
    phase, log, sure, heard = standing[0]
    log, sure = written(log, sure, "begun", protocol[0][0])
    return with_letter_to_all(with_coordinator(standing, "voting", log, sure, ()), "prepare")


def prepared(protocol, standing, i):
    """The participant i writes prepared, and is prepared."""
    phase, log, sure = standing[1][i]
    log, sure = written(log, sure, "prepared", protocol[1][i][0])
    return with_participant(standing, i, "prepared", log, sure)


def say_yes(protocol, standing, deed):
    """A participant is prepared, and says so."""
    return with_letter(prepared(protocol, standing, deed[1]), deed[1], "yes")


def say_no(protocol, standing, deed):
    """A participant aborts, and says so."""
    i = deed[1]
    phase, log, sure = standing[1][i]
    return with_told(with_letter(with_participant(standing, i, "aborted", log, sure), i, "no"), "abort")


def read_only(protocol, standing, deed):
    """A participant that has only read says yes, and has no part in what comes."""
    i = deed[1]
    phase, log, sure = standing[1][i]
    return with_letter(with_participant(standing, i, "out", log, sure), i, "yes")


def count_yes(protocol, standing, deed):
    """The coordinator counts a yes, and decides with the last one."""
    counted = with_heard(standing, deed[1])
    if len(counted[0][3]) == len(protocol[1]):
        return decided(protocol, counted, "commit")
    return counted


def give_up(protocol, standing, deed):
    """The coordinator decides abort, whether for a no or by itself."""
    return decided(protocol, standing, "abort")


def hear_thanks(protocol, standing, deed):
    """The coordinator hears thanks, and forgets with the last ones."""
    thanked = with_heard(standing, deed[1])
    if len(thanked[0][3]) == len(thankers(protocol, end_of(standing[0][0]))):
        return forgotten(thanked)
    return thanked


def taken(protocol, standing, i, end):
    """The standing behind the participant i taking this end."""
    phase, log, sure = standing[1][i]
    if end == "commit" or phase == "prepared":
        log, sure = written(log, sure, row_of(end), strength_of(protocol[1][i], end))
    return with_told(with_participant(standing, i, row_of(end), log, sure), end)


def hear_end(protocol, standing, deed):
    """A participant hears an end, takes it if it waits for one, and thanks if it thanks for it."""
    i, end = deed[1:]
    manner = protocol[1][i]
    if takes(manner, standing[1][i][0], end):
        standing = taken(protocol, standing, i, end)
    if end in manner[3]:
        return with_letter(standing, i, row_of(end))
    return standing


def ask(protocol, standing, deed):
    """A participant asks, and what is presumed for it is sent."""
    return with_letter(standing, deed[1], protocol[1][deed[1]][4])


def restore(protocol, standing, deed):
    """A blank participant asks for its work, which has gone along with its yes."""
    i = deed[1]
    if standing[0][0] == "unknown":
        phase, log, sure = standing[1][i]
        return with_told(with_participant(standing, i, "aborted", log, sure), "abort")
    if i in standing[0][3]:
        return prepared(protocol, standing, i)
    return decided(protocol, standing, "abort")


def stop(protocol, standing, deed):
    """The coordinator falls, and does by its log what it can."""
    log = standing[0][1][:deed[1]]
    fallen = with_coordinator(standing, "unknown", log, len(log), ())
    if not log or "ended" in log:
        return fallen
    return decided(protocol, fallen, "commit" if "committed" in log else "abort")


def phase_by_log(log):
    """The phase of a participant that comes up with this log."""
    for row in ("committed", "aborted", "prepared"):
        if row in log:
            return row
    return "blank"


def fall(protocol, standing, deed):
    """A participant falls, and is what its log says."""
    i, kept = deed[1:]
    log = standing[1][i][1][:kept]
    phase = phase_by_log(log)
    fallen = with_participant(standing, i, phase, log, len(log))
    if phase == "blank" and not protocol[1][i][5]:
        return with_told(fallen, "abort")
    return fallen


DOERS = {
    "begin": begin,
    "yes": say_yes,
    "no": say_no,
    "read": read_only,
    "count": count_yes,
    "refused": give_up,
    "quit": give_up,
    "thanked": hear_thanks,
    "hear": hear_end,
    "ask": ask,
    "restore": restore,
    "stop": stop,
    "fall": fall,
}


def done(protocol, standing, deed):
    """The standing behind this deed, which can be done."""
    act = DOERS[deed[0]]
    return act(protocol, standing, deed)

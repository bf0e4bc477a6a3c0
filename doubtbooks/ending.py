"""Whether both ends were told, and whether nobody waits for an end any more."""


def is_split(standing):
    """Whether somebody was told abort, and somebody commit."""
    return len(standing[3]) == 2


def waits(manner, phase):
    """Whether a participant of this manner, in this phase, still waits for an end."""
    return phase in ("active", "prepared") or (phase == "blank" and manner[5])


def is_home(protocol, standing):
    """Whether the coordinator knows nothing any more, and no participant waits."""
    manners = protocol[1]
    coordinator, participants = standing[:2]
    if coordinator[0] != "unknown":
        return False
    return not any(waits(manners[i], participants[i][0]) for i in range(len(manners)))

"""What a manner lacks beside a head, and which protocols are safe."""


def lacking_for_commit(manner):
    """The words that are lacking for a commit not to be lost once it is forgotten."""
    words = []
    if manner[1] != "forced":
        words.append("committed")
    if "commit" not in manner[3]:
        words.append("thanks commit")
    return words


def lacking_for_abort(head, manner):
    """The words that are lacking for an abort not to be lost where commit is presumed."""
    words = []
    if head[0] != "forced":
        words.append("begun")
    if "abort" not in manner[3]:
        words.append("thanks abort")
    # Whoever never writes prepared is blank behind a fall, and does not ask.
    if manner[2] != "forced" and manner[0] != "none":
        words.append("aborted")
    return words


def lacks(head, manner):
    """The words of all that is lacking between this head and this manner, ascending."""
    prepared, committed, aborted, thanks, presumed, sent = manner
    words = []
    if head[1] != "forced":
        words.append("head committed")
    if prepared != "forced" and not sent:
        words.append("prepared")
    if presumed == "commit":
        words.extend(lacking_for_abort(head, manner))
    if presumed == "abort" or (sent and prepared != "forced"):
        words.extend(lacking_for_commit(manner))
    return tuple(sorted(words))


def fits(head, manner):
    """Whether nothing is lacking between this head and this manner."""
    return lacks(head, manner) == ()


def alone_fits(head, manner):
    """Whether this head and one participant of this manner are safe for being alone, whatever else they lack."""
    prepared, committed, aborted, thanks, presumed, sent = manner
    if presumed != "commit" or "abort" not in thanks:
        return False
    if prepared != "forced" or aborted != "forced" or head[2] != "forced":
        return False
    # A row begun that outlives the row committed turns a commit that was told into an abort.
    return head[0] == "none" or head[1] == "forced"


def is_safe(protocol):
    """Whether no run of protocol leads to a split."""
    head, manners = protocol
    if len(manners) == 1 and alone_fits(head, manners[0]):
        return True
    # No run has to be looked at: who does harm does so by its own manner and the head, whatever the others are.
    return all(fits(head, manner) for manner in manners)

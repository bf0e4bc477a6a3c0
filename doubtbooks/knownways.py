"""Ways that are known in print: each a pair of a head and a manner."""


def presumed_abort():
    """Abort is presumed, so commits alone are written and thanked for."""
    head = ("none", "forced", "none")
    return (head, ("forced", "forced", "none", ("commit",), "abort", False))


def abort_with_work():
    """As presumed_abort, but the work goes along with the yes, and prepared is not written."""
    head = ("none", "forced", "none")
    return (head, ("none", "forced", "none", ("commit",), "abort", True))


def presumed_commit():
    """Commit is presumed, so begun is forced, and aborts are written and thanked for."""
    head = ("forced", "forced", "none")
    return (head, ("forced", "none", "forced", ("abort",), "commit", False))


def commit_with_work():
    """Commit is presumed, and the work goes along with the yes; both ends are thanked for."""
    head = ("forced", "forced", "none")
    return (head, ("none", "forced", "none", ("abort", "commit"), "commit", True))


def all_forced(presumed):
    """Every row is forced, both ends are thanked for, and this end is presumed."""
    head = ("forced", "forced", "forced")
    return (head, ("forced", "forced", "forced", ("abort", "commit"), presumed, False))

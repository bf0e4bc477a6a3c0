"""Trees of coordinators: what they are, and which nodes are below which."""

from doubtbooks.bounds import MAX_NODES
from doubtbooks.kinds import is_integer_within, is_tuple_of
from doubtbooks.protocols import ASCENDING_ENDS, ENDS, head_error, strength_error


def nodes_of(tree):
    """The numbers of all nodes but the root, ascending."""
    return list(range(1, len(tree[1]) + 1))


def entry_of(tree, node):
    """The entry of this node, which is not the root."""
    return tree[1][node - 1]


def above(tree, node):
    """The node above this one, which is not the root."""
    return entry_of(tree, node)[0]


def below(tree, node):
    """The nodes that have this node above them, ascending."""
    return tuple([other for other in nodes_of(tree) if above(tree, other) == node])


def thanks_for(tree, node, end):
    """Whether this node thanks the one above it for this end."""
    return node != 0 and end in entry_of(tree, node)[5]


def presumed_for(tree, node):
    """The end that is presumed for this node, which is not the root."""
    return entry_of(tree, node)[6]


def is_late(tree, node):
    """Whether this node thanks only when all below it have thanked."""
    return node != 0 and entry_of(tree, node)[7]


def row_strength(tree, node, row):
    """How surely this node writes this row; the root writes no row prepared."""
    if node == 0:
        begun, committed, aborted = tree[0]
        strengths = {"begun": begun, "committed": committed, "aborted": aborted}
    else:
        begun, prepared, committed, aborted = entry_of(tree, node)[1:5]
        strengths = {"begun": begun, "prepared": prepared, "committed": committed, "aborted": aborted}
    return strengths[row]


def entry_error(value, node):
    """None if value is an entry of the node of this number, otherwise the word for what is wrong first."""
    if not is_tuple_of(value, 8):
        return "form"
    if not is_integer_within(value[0], 0, node - 1):
        return "above"
    if strength_error(value[1:5]) is not None:
        return "strength"
    thanks, presumed, late = value[5:]
    if thanks not in ASCENDING_ENDS:
        return "thanks"
    if presumed not in ENDS:
        return "presumed"
    if not isinstance(late, bool):
        return "late"
    return None


def is_wrong_leaf(tree, node):
    """Whether this node has none below it, though it writes begun, or is late."""
    return not below(tree, node) and (row_strength(tree, node, "begun") != "none" or is_late(tree, node))


def tree_error(value):
    """None if value is a tree, otherwise what is wrong with it first."""
    if not is_tuple_of(value, 2):
        return "form"
    head, entries = value
    if not isinstance(entries, tuple) or not 1 <= len(entries) <= MAX_NODES - 1:
        return "form"
    error = head_error(head)
    if error is not None:
        return ("head", error)
    for node in nodes_of(value):
        word = entry_error(entry_of(value, node), node)
        if word is not None:
            return ("node", node, word)
    for node in nodes_of(value):
        if is_wrong_leaf(value, node):
            return ("leaf", node)
    return None

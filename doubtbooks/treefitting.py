"""What the edges of a tree lack, and which trees are safe."""

from doubtbooks.fitting import alone_fits
from doubtbooks.trees import above, below, entry_of, nodes_of, presumed_for, row_strength, thanks_for


def edge_lacks(tree, node):
    """The words of all that is lacking at the edge from the node above this one to it, ascending."""
    words = []
    if row_strength(tree, node, "prepared") != "forced":
        words.append("prepared")
    if presumed_for(tree, node) == "abort":
        row, end = "committed", "commit"
    else:
        row, end = "aborted", "abort"
        if row_strength(tree, above(tree, node), "begun") != "forced":
            words.append("begun")
    # The end that is not presumed must not be lost once it is forgotten above.
    if row_strength(tree, node, row) != "forced":
        words.append(row)
    if not thanks_for(tree, node, end):
        words.append("thanks " + end)
    return tuple(sorted(words))


def manner_of(tree, node):
    """The manner by which this node goes towards the one above it; no work is sent in trees."""
    return entry_of(tree, node)[2:7] + (False,)


def is_safe_tree(tree):
    """Whether no run of tree leads to a split."""
    lacking = [node for node in nodes_of(tree) if edge_lacks(tree, node)]
    if tree[0][1] == "forced" and not lacking:
        return True
    first, *others = below(tree, 0)
    if others or [node for node in lacking if node != first]:
        return False
    # A node that is alone below the root has nobody beside it whose work could be lost.
    return alone_fits(tree[0], manner_of(tree, first))

"""Losing runs of trees that are not safe, told by what is lacking, and whether a value is one."""

from doubtbooks.treedeeds import awaited, done_in_tree
from doubtbooks.treefitting import edge_lacks, is_safe_tree
from doubtbooks.treemoving import can_be_done, start_tree
from doubtbooks.trees import above, below, is_late, nodes_of, presumed_for, row_strength


def inside(tree, node):
    """This node and all that are below it, however deep, ascending."""
    found = [node]
    # Whoever is below has a greater number than the one above.
    for other in nodes_of(tree):
        if above(tree, other) in found:
            found.append(other)
    return found


def path_to(tree, node):
    """The nodes from below the root down to this one; none if it is the root."""
    path = []
    while node != 0:
        path.append(node)
        node = above(tree, node)
    return list(reversed(path))


def answers(tree, nodes):
    """Middle ones among nodes forward, leaves say yes."""
    return tuple([("forward" if below(tree, node) else "yes", node) for node in nodes])


def all_counted(tree):
    """All say yes and are counted, up to the root: commit is told."""
    nodes = nodes_of(tree)
    return (("begin",),) + answers(tree, nodes) + tuple([("count", node) for node in reversed(nodes)])


def one_prepared(tree, node):
    """This node says yes, as all below it have; nobody but those above it is asked besides."""
    asked = path_to(tree, above(tree, node)) + inside(tree, node)
    counted = [("count", other) for other in reversed(inside(tree, node)) if other != node]
    return (("begin",),) + answers(tree, asked) + tuple(counted)


def told_above(tree, node, end):
    """The end is handed on down to the node above this one, all being prepared."""
    return tuple([("hear", other, end) for other in path_to(tree, above(tree, node))])


def thanks_of(tree, node, end):
    """This node, being prepared, hears this end and thanks, and is heard; a late one behind those below it."""
    deeds = [("hear", node, end)]
    if is_late(tree, node):
        for other in awaited(tree, node, end):
            deeds.extend(thanks_of(tree, other, end))
    return deeds + [("thanked", node)]


def unasked_thanks_of(tree, node):
    """This node, having answered nothing, hears abort and thanks, and is heard."""
    # A late one would wait for those below it; behind a fall it does not.
    fallen = [("fall", node, 0)] if is_late(tree, node) else []
    return fallen + [("hear", node, "abort"), ("thanked", node)]


def forgotten_abort(tree, node):
    """The node above this one gives up and forgets, as all beside this one thank."""
    deeds = [("quit", above(tree, node))]
    for other in awaited(tree, above(tree, node), "abort"):
        if other != node:
            deeds.extend(unasked_thanks_of(tree, other))
    return tuple(deeds)


def forgotten_commit(tree, node):
    """All commit, and the node above this one forgets, as all below it that are awaited thank."""
    deeds = []
    for other in awaited(tree, above(tree, node), "commit"):
        deeds.extend(thanks_of(tree, other, "commit"))
    return all_counted(tree) + told_above(tree, node, "commit") + tuple(deeds)


def asked_for(node, end):
    """This node, being prepared, asks one that knows nothing, and is told what is presumed."""
    return (("ask", node), ("hear", node, end))


def back_to_prepared(tree, node):
    """This node falls, and keeps its rows up to prepared."""
    return (("fall", node, 1 if row_strength(tree, node, "begun") == "none" else 2),)


def lose_by_prepared(tree, node):
    """Commit is told, and the work of this node is gone."""
    # With begun kept it gives up, with nothing kept it is blank: abort is told by both.
    kept = 1 if row_strength(tree, node, "begun") == "forced" else 0
    return all_counted(tree) + (("fall", node, kept),)


def lose_by_root(tree, node):
    """Commit is told, and the root loses its row; None if what is presumed for this node is right then."""
    if row_strength(tree, 0, "begun") != "none":
        # Of its log begun alone is left, by which it gives up.
        return all_counted(tree) + (("fall", 0, 1),)
    if presumed_for(tree, node) == "abort":
        return all_counted(tree) + (("fall", 0, 0),) + asked_for(node, "abort")
    return None


def lose_by_begun(tree, node):
    """Abort is told, and the node above, knowing nothing, tells this one commit; None if it never does."""
    upper = above(tree, node)
    lost = (("fall", upper, 0),) + asked_for(node, "commit")
    others = [other for other in below(tree, upper) if other != node]
    if upper != 0:
        # It has lost its own work by that fall.
        return one_prepared(tree, node) + lost
    if others:
        return one_prepared(tree, node) + (("fall", others[0], 0),) + lost
    if row_strength(tree, 0, "aborted") != "forced":
        return one_prepared(tree, node) + (("quit", 0),) + lost
    return None


def lose_by_thanks_abort(tree, node):
    """Abort is forgotten though this node has not heard it, and it is told commit."""
    return one_prepared(tree, node) + forgotten_abort(tree, node) + asked_for(node, "commit")


def lose_by_aborted(tree, node):
    """Abort is forgotten, this node loses its row, is prepared again, and is told commit."""
    deeds = one_prepared(tree, node) + forgotten_abort(tree, node) + tuple(thanks_of(tree, node, "abort"))
    return deeds + back_to_prepared(tree, node) + asked_for(node, "commit")


def lose_by_thanks_commit(tree, node):
    """Commit is forgotten though this node has not heard it, and it aborts."""
    return forgotten_commit(tree, node) + asked_for(node, "abort")


def lose_by_committed(tree, node):
    """Commit is forgotten, this node loses its row, is prepared again, and aborts."""
    return forgotten_commit(tree, node) + back_to_prepared(tree, node) + asked_for(node, "abort")


# In this order: each of them leans on no node lacking what stands ahead.
TREE_LOSSES = {
    "prepared": lose_by_prepared,
    "head committed": lose_by_root,
    "begun": lose_by_begun,
    "thanks abort": lose_by_thanks_abort,
    "aborted": lose_by_aborted,
    "thanks commit": lose_by_thanks_commit,
    "committed": lose_by_committed,
}


def lacking_for(tree, node):
    """What is lacking at the edge to this node, and what its root lacks if that is above it."""
    words = edge_lacks(tree, node)
    if above(tree, node) == 0 and row_strength(tree, 0, "committed") != "forced":
        return words + ("head committed",)
    return words


def splitting_tree(tree):
    """A losing run of tree; None if it is safe."""
    if is_safe_tree(tree):
        return None
    for word in TREE_LOSSES:
        lose = TREE_LOSSES[word]
        for node in nodes_of(tree):
            if word in lacking_for(tree, node):
                run = lose(tree, node)
                if run is not None:
                    return run
    return None


def splitting_tree_error(tree, value):
    """None if value is a losing run of tree, otherwise what is wrong with it first."""
    if not isinstance(value, tuple):
        return "form"
    standing = start_tree(tree)
    for k in range(len(value)):
        if not can_be_done(tree, standing, value[k]):
            return ("deed", k)
        standing = done_in_tree(tree, standing, value[k])
    if len(standing[2]) < 2:
        return "whole"
    if len(value) > 4 * len(tree[1]) + 4:
        return "long"
    return None

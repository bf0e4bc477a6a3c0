"""The least ways, what is needless in a safe protocol, and the fewest steps that make one safe."""

from doubtbooks.errors import Unfit
from doubtbooks.fitting import fits, is_safe
from doubtbooks.knownways import abort_with_work, commit_with_work, presumed_abort, presumed_commit
from doubtbooks.protocols import ASCENDING_ENDS, ENDS, STRENGTHS

HEAD_ENTRIES = ("begun", "committed", "aborted")
STRENGTH_ENTRIES = ("prepared", "committed", "aborted")


def least_ways():
    """All ways that fit, such that no weaker one does, ascending."""
    return tuple(sorted([presumed_abort(), abort_with_work(), presumed_commit(), commit_with_work()]))


def replaced(items, at, item):
    """The tuple items with this item at this place."""
    return items[:at] + (item,) + items[at + 1:]


def strengths_taken_down(items, words):
    """Pairs of an entry's word, and items with this strength, one of the first ones, a step down."""
    pairs = []
    for k in range(len(words)):
        step = STRENGTHS.index(items[k])
        if step > 0:
            pairs.append((words[k], replaced(items, k, STRENGTHS[step - 1])))
    return pairs


def manners_taken_down(manner):
    """Pairs of an entry's word, and the manner with this entry a step down."""
    pairs = strengths_taken_down(manner, STRENGTH_ENTRIES)
    thanks, presumed, sent = manner[3:]
    for end in thanks:
        fewer = tuple([other for other in thanks if other != end])
        pairs.append(("thanks " + end, replaced(manner, 3, fewer)))
    if sent:
        pairs.append(("sent", replaced(manner, 5, False)))
    return pairs


def protocols_taken_down(protocol):
    """Pairs of an entry, and the protocol with this entry a step down."""
    head, manners = protocol
    pairs = [(("head", word), (lower, manners)) for word, lower in strengths_taken_down(head, HEAD_ENTRIES)]
    for i in range(len(manners)):
        for word, lower in manners_taken_down(manners[i]):
            pairs.append((("manner", i, word), (head, replaced(manners, i, lower))))
    return pairs


def needless(protocol):
    """The entries that can be taken down by a step, each by itself, so that protocol stays safe."""
    if not is_safe(protocol):
        raise Unfit()
    return tuple(sorted([entry for entry, lower in protocols_taken_down(protocol) if is_safe(lower)]))


def height(strengths):
    """How many steps these strengths are above writing nothing."""
    return sum([STRENGTHS.index(strength) for strength in strengths])


def manner_height(manner):
    """How many steps this manner is above writing nothing, thanking for nothing, and sending no work."""
    return height(manner[:3]) + len(manner[3]) + int(manner[5])


def strengths_from(strength):
    """This strength, and the greater ones."""
    return STRENGTHS[STRENGTHS.index(strength):]


def heads_from(head):
    """Pairs (steps, head): all heads that steps up make of this one, and how many they are."""
    begun, committed, aborted = [strengths_from(strength) for strength in head]
    heads = [(one, two, three) for one in begun for two in committed for three in aborted]
    return [(height(higher) - height(head), higher) for higher in heads]


def manners_from(manner):
    """Pairs (steps, manner): all manners that steps up make of this one, and how many they are."""
    prepared, committed, aborted = [strengths_from(strength) for strength in manner[:3]]
    more = [thanks for thanks in ASCENDING_ENDS if all([end in thanks for end in manner[3]])]
    works = (True,) if manner[5] else (False, True)
    manners = [(one, two, three, thanks, manner[4], sent) for one in prepared for two in committed
               for three in aborted for thanks in more for sent in works]
    return [(manner_height(higher) - manner_height(manner), higher) for higher in manners]


def fewest_alone(protocol):
    """The pair (steps, protocol) of fewest_steps, for one participant alone."""
    head, manners = protocol
    # What makes it safe for being alone hangs on the head and the manner together.
    pairs = [(more + yet_more, (higher, (own,)))
             for more, higher in heads_from(head) for yet_more, own in manners_from(manners[0])]
    return min([pair for pair in pairs if is_safe(pair[1])])


def strongest(manner):
    """The manner of greatest strengths and all thanks: whatever it lacks is the head's."""
    return ("forced", "forced", "forced", ENDS, manner[4], manner[5])


def least_head(protocol):
    """The pair (steps, head) of the fewest steps up with which the head is not what is lacking."""
    head, manners = protocol
    best = [strongest(manner) for manner in manners]
    return min([pair for pair in heads_from(head) if all([fits(pair[1], manner) for manner in best])])


def least_manner(head, manner):
    """The pair (steps, manner) of the fewest steps up with which this manner fits head."""
    return min([pair for pair in manners_from(manner) if fits(head, pair[1])])


def fewest_steps(protocol):
    """The least number of steps up that make a safe protocol of this one, and such a protocol."""
    head, manners = protocol
    if len(manners) == 1:
        return fewest_alone(protocol)
    steps, higher = least_head(protocol)
    # Each word of lacks hangs on the head alone or on one manner alone, so each is raised by itself.
    pairs = [least_manner(higher, manner) for manner in manners]
    return (steps + sum([pair[0] for pair in pairs]), (higher, tuple([pair[1] for pair in pairs])))

"""How near to one another places can be at all, when each has few ties."""

from healedwebs.basics import ascends, is_within, pair_of
from healedwebs.errors import BadLimits, BadNumber, NoTree, NotTree
from healedwebs.webs import far_along, tied_by

MOST_LIMITS = 200
MOST_TIES = 200
MOST_FAR = 40
MOST_MANY = 1000000


def check_limits(value):
    """Raises BadLimits for any value that is no limits."""
    if not (isinstance(value, tuple) and 1 <= len(value) <= MOST_LIMITS
            and all([is_within(limit, 0, MOST_TIES) for limit in value])):
        raise BadLimits(value)


def check_tree(limits):
    """Raises NoTree if there is no tree for the limits."""
    many = len(limits)
    if many > 1 and (0 in limits or sum(limits) < 2 * (many - 1)):
        raise NoTree(limits)


def is_tree_for(limits, value):
    """Whether any value is a tree for the limits."""
    check_limits(limits)
    many = len(limits)
    if not isinstance(value, tuple) or len(value) != many - 1:
        return False
    if not all([is_tie_of(tie, many) for tie in value]) or not ascends(value):
        return False
    tied = tied_by(list(range(many)), value)
    # With one tie less than places, all are joined only if there is no ring.
    return len(far_along(tied, 0)) == many and all([len(tied[at]) <= limit for at, limit in enumerate(limits)])


def is_tie_of(value, many):
    """Whether any value is a tie of the places below many."""
    return (isinstance(value, tuple) and len(value) == 2
            and all([is_within(place, 0, many - 1) for place in value])
            and value[0] < value[1])


def tree_farthest(limits, ties):
    """The greatest number of ties of a way between two places of a tree for the limits."""
    if not is_tree_for(limits, ties):
        raise NotTree(ties)
    return way_through(len(limits), ties)


def way_through(many, ties):
    """The farthest of a tree of so many places."""
    tied = tied_by(list(range(many)), ties)
    # In a tree each longest way has an end among those farthest from any place.
    return last_reached(tied, last_reached(tied, 0)[1])[0]


def last_reached(tied, place):
    """A place that is farthest from this one: (how far it is, the place)."""
    far = far_along(tied, place)
    return max([(far[other], other) for other in far])


def least_far(limits):
    """The least farthest of all trees for the limits, and a tree whose farthest it is."""
    check_limits(limits)
    check_tree(limits)
    ties = low_tree(limits)
    return (way_through(len(limits), ties), ties)


def low_tree(limits):
    """A tree for the limits whose farthest is the least."""
    # In the midst of the longest ways of any tree stands a place, or two that are
    # tied. The tree is lowest from there if nobody with a greater limit is farther
    # away, and nobody farther away than need be. If each place in turn, by falling
    # limits, is tied to the earliest one that has room left, both is so, whether
    # one looks from the first place or from the first two.
    order = sorted([(-limit, place) for place, limit in enumerate(limits)])
    first, *others = [pair[1] for pair in order]
    room = [first] * limits[first]
    ties = []
    for at, place in enumerate(others):
        ties.append(pair_of(room[at], place))
        room.extend([place] * (limits[place] - 1))
    return tuple(sorted(ties))


def shows_least_far(limits, value):
    """Whether any value is what least_far may return."""
    far = least_far(limits)[0]
    if not isinstance(value, tuple) or len(value) != 2:
        return False
    # Equal alone would take True for 1.
    return (is_within(value[0], far, far) and is_tree_for(limits, value[1])
            and way_through(len(limits), value[1]) == far)


def tree_room(far, most):
    """How many places a tree can have, if none has more ties, and no two are farther apart."""
    if not is_within(far, 0, MOST_FAR):
        raise BadNumber(far)
    if not is_within(most, 1, MOST_TIES):
        raise BadNumber(most)
    # Layer by layer, around one place if far is even, around two that are tied if not.
    if far % 2 == 0:
        return 1 + most * layers(far // 2, most)
    return 2 * layers(far // 2 + 1, most)


def layers(many, most):
    """How many places there are in so many layers, when one stands at the top of them."""
    total = 0
    layer = 1
    for _ in range(many):
        total += layer
        layer *= most - 1
    return total


def web_floor(many, most):
    """How far some two of so many joined places are apart at least, if none has more ties."""
    if not is_within(many, 1, MOST_MANY):
        raise BadNumber(many)
    if not is_within(most, 1, MOST_TIES):
        raise BadNumber(most)
    if most == 1 and many > 2:
        raise NoTree(most)
    far = 0
    reached = 1
    layer = most
    while reached < many:
        far += 1
        reached += layer
        layer *= most - 1
    return far

"""Trees for limits, found and measured by other ways than the package's."""

import heapq
import itertools


def ends_of(many, ties):
    """How many ties each place has."""
    found = [0] * many
    for one, other in ties:
        found[one] += 1
        found[other] += 1
    return found


def all_trees(many):
    """All trees of so many places, each told by its row of numbers after Pruefer."""
    if many == 1:
        yield ()
        return
    for row in itertools.product(range(many), repeat=many - 2):
        left = [1 + row.count(place) for place in range(many)]
        leaves = [place for place in range(many) if left[place] == 1]
        heapq.heapify(leaves)
        ties = []
        for place in row:
            ties.append(tuple(sorted((heapq.heappop(leaves), place))))
            left[place] -= 1
            if left[place] == 1:
                heapq.heappush(leaves, place)
        ties.append((heapq.heappop(leaves), heapq.heappop(leaves)))
        yield tuple(sorted([tuple(sorted(tie)) for tie in ties]))


def is_plain_tree(limits, ties):
    """Whether ties, known to be pairs of numbers, are a tree for the limits: by melting parts together."""
    part = list(range(len(limits)))
    for one, other in ties:
        if not 0 <= one < other < len(limits) or part[one] == part[other]:
            return False
        old, new = part[one], part[other]
        part = [new if now == old else now for now in part]
    return (len(set(part)) == 1 and list(ties) == sorted(set(ties))
            and all(found <= limit for found, limit in zip(ends_of(len(limits), ties), limits)))


def height_from(many, ties, top):
    """How far the farthest place is from this one."""
    beside = {place: [] for place in range(many)}
    for one, other in ties:
        beside[one].append(other)
        beside[other].append(one)
    far = -1
    layer, seen = [top], {top}
    while layer:
        far += 1
        layer = [other for one in layer for other in beside[one] if other not in seen]
        seen.update(layer)
    return far


def plain_farthest(many, ties):
    """The farthest of a tree, from each of its places."""
    return max(height_from(many, ties, place) for place in range(many))


def layered_least(limits):
    """The least farthest, by how many places there can be in each layer around one place, or two, in the midst.

    Who has more room is nearer to the midst, so the limits fall from layer to layer.
    """
    falling = sorted(limits, reverse=True)
    if len(limits) == 1:
        return 0
    best = []
    for heads in (1, 2):
        placed, layers = heads, 0
        room = sum(falling[:heads]) - 2 * (heads - 1)
        while placed < len(falling):
            assert room > 0, limits
            layer = falling[placed:placed + room]
            room = sum(layer) - len(layer)
            placed += len(layer)
            layers += 1
        best.append(2 * layers + heads - 1)
    return min(best)


def drawn_tree(dice, limits):
    """Some tree for the limits, if there is any: each place, in a drawn order, is tied to some one that has room."""
    rich = [place for place, limit in enumerate(limits) if limit > 1]
    poor = [place for place, limit in enumerate(limits) if limit <= 1]
    dice.shuffle(rich)
    dice.shuffle(poor)
    order = rich + poor
    left = list(limits)
    open_ones, ties = [order[0]], []
    lean = dice.choice([0.0, 0.5, 1.0])
    for place in order[1:]:
        # Leaning to the earliest ones, or to the latest, makes low trees or high ones.
        at = 0 if dice.random() < lean else dice.randrange(len(open_ones))
        other = open_ones[at]
        ties.append(tuple(sorted((place, other))))
        left[place] -= 1
        left[other] -= 1
        if left[other] == 0:
            open_ones.pop(at)
        if left[place] > 0:
            open_ones.append(place)
    return tuple(sorted(ties))


def drawn_limits(dice, most=200):
    """Limits for which there is a tree: many or few places, with small and great limits, often just enough."""
    many = dice.choice([dice.randint(1, 8), dice.randint(9, 40), dice.randint(most // 2, most)])
    if many == 1:
        return (dice.randint(0, 200),)
    top = dice.choice([2, 3, 4, 8, 200])
    limits = [dice.choice([1, 1, 2, dice.randint(1, top)]) for _ in range(many)]
    if dice.random() < 0.5:
        limits = [1] * many
    while sum(limits) < 2 * (many - 1):
        limits[dice.randrange(many)] += 1 if dice.random() < 0.7 else min(20, 2 * (many - 1) - sum(limits))
    return tuple([min(limit, 200) for limit in limits])

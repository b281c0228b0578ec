"""Rows of ties, judged by the bounds that healers keep, and measured."""

from math import gcd

from healedwebs.basics import ascends, is_kind, pair_of
from healedwebs.errors import BadKind, BadRows
from healedwebs.histories import check_wood
from healedwebs.webs import far_along, is_tie, tied_by


class Scene:
    """Who lives, and what the elder web is, behind the deeds that were done so far."""

    def __init__(self):
        self.living = []
        self.many = 0
        self.elder = {}
        self.far = {}

    def go_on(self, deed):
        """One deed more is done."""
        if deed[0] == "come":
            self.living = sorted([*self.living, deed[1]])
            self._come(deed[1], deed[2])
        else:
            self.living = [name for name in self.living if name != deed[1]]

    def greatest(self):
        """The greatest number of elder ties of a place, living or dead."""
        return max([self.elder[name] for name in self.elder])

    def _come(self, name, ties):
        """A place comes into the elder web."""
        self.many += len(ties)
        self.elder[name] = len(ties)
        near = {}
        for tie in ties:
            self.elder[tie] += 1
            for other in self.far[tie]:
                way = self.far[tie][other] + 1
                near[other] = min(near.get(other, way), way)
        for other in near:
            self.far[other][name] = near[other]
        self.far[name] = {name: 0, **near}
        if len(ties) > 1:
            self._shorten(list(near.items()))

    def _shorten(self, near):
        """Places that are so far from the last one may now be nearer to one another."""
        for one, way in near:
            far = self.far[one]
            for other, more in near:
                if way + more < far.get(other, way + more + 1):
                    far[other] = way + more


def is_rows(history, value):
    """Whether any value is rows for the history: the ties behind each deed."""
    if not isinstance(value, tuple) or len(value) != len(history):
        return False
    living = {}
    for deed, row in zip(history.deeds, value):
        if deed[0] == "come":
            living[deed[1]] = True
        else:
            del living[deed[1]]
        if not is_row(row, living):
            return False
    return True


def is_row(value, living):
    """Whether any value is a row of ties between living places, the keys of a dict."""
    return (isinstance(value, tuple)
            and all([is_tie(tie, living) for tie in value]) and ascends(value))


def check_rows(history, rows):
    """Raises BadRows for any value that is not rows for the history."""
    if not is_rows(history, rows):
        raise BadRows(rows)


def judged(history, rows, kind):
    """Whether all bounds are kept, or else where, and by what, one is broken first."""
    check_rows(history, rows)
    if not is_kind(kind):
        raise BadKind(kind)
    if kind == "wood":
        check_wood(history)
    scene = Scene()
    ahead = ()
    for number, deed in enumerate(history.deeds):
        scene.go_on(deed)
        # A coming that puts in its own ties alone breaks no other bound that was
        # kept ahead of it: each tie is an elder tie too, each way that comes to be
        # is one in the elder web, and the bounds never fall.
        if deed[0] == "come":
            fault = coming_fault(deed, ahead, rows[number])
        else:
            fault = death_fault(deed, ahead, rows[number], scene, kind)
        if fault is not None:
            return ("broken", number, *fault)
        ahead = rows[number]
    return ("kept",)


def coming_fault(deed, ahead, row):
    """What a coming does beside putting in its ties: (word, names, found, bound), or None."""
    told = [pair_of(deed[1], tie) for tie in deed[2]]
    unlike = sorted(set([*ahead, *told]) ^ set(row))
    if unlike:
        return ("coming", unlike[0], None, None)
    return None


def death_fault(deed, ahead, row, scene, kind):
    """What is broken first behind a death: (word, names, found, bound), or None."""
    tied = tied_by(scene.living, row)
    fault = ties_fault(tied, scene, kind)
    if fault is None:
        fault = ways_fault(tied, scene, kind)
    if fault is None:
        fault = changes_fault(deed, ahead, row, scene, kind)
    return fault


def ties_fault(tied, scene, kind):
    """The first living place with too many ties."""
    for name in scene.living:
        elder = scene.elder[name]
        bound = 3 * elder if kind == "web" else elder + 3
        if len(tied[name]) > bound:
            return ("ties", (name,), len(tied[name]), bound)
    return None


def ways_fault(tied, scene, kind):
    """The first word that is broken by how far two living places are apart."""
    factor = 2 * scene.many.bit_length() if kind == "web" else 1 + scene.greatest().bit_length()
    faults = {}
    for at, one in enumerate(scene.living):
        far = far_along(tied, one)
        for other in scene.living[at + 1:]:
            told = scene.far[one].get(other)
            word = way_word(far.get(other), told, factor)
            # Pairs ascend: the first one of each word is the least.
            if word == "far":
                faults.setdefault(word, (word, (one, other), far[other], factor * told))
            elif word is not None:
                faults.setdefault(word, (word, (one, other), None, None))
    for word in ("parted", "joined", "far"):
        if word in faults:
            return faults[word]
    return None


def way_word(found, told, factor):
    """What is wrong with how far two are apart, by how far they are in the elder web."""
    if told is None:
        return None if found is None else "joined"
    if found is None:
        return "parted"
    return "far" if found > factor * told else None


def changes_fault(deed, ahead, row, scene, kind):
    """Whether too many ties have changed at a death."""
    elder = scene.elder[deed[1]]
    bound = 10 * elder * scene.many.bit_length() + 16 if kind == "web" else 6 * elder + 12
    found = changes_at(deed[1], ahead, row)
    if found > bound:
        return ("changes", (), found, bound)
    return None


def changes_at(name, ahead, row):
    """How many pairs of others are tied in just one of two rows, as this place dies."""
    return len({tie for tie in ahead if name not in tie} ^ set(row))


def measures(history, rows):
    """How far the rows go: (more, share, far, changes), each the greatest behind any deed."""
    check_rows(history, rows)
    scene = Scene()
    ahead = ()
    changes = 0
    # By the number of ties, and by how far two are apart, in the elder web: the
    # greatest one that the rows have for it.
    ties = {}
    ways = {}
    for deed, row in zip(history.deeds, rows):
        scene.go_on(deed)
        tied = tied_by(scene.living, row)
        for name in scene.living:
            raise_to(ties, scene.elder[name], len(tied[name]))
        measure_ways(ways, tied, scene)
        if deed[0] == "die":
            changes = max(changes, changes_at(deed[1], ahead, row))
        ahead = row
    more = max([0, *[ties[elder] - elder for elder in ties]])
    return (more, greatest_share(ties), greatest_share(ways), changes)


def raise_to(table, place, number):
    """Makes what a dict has at a place this number at least."""
    table[place] = max(table.get(place, 0), number)


def measure_ways(ways, tied, scene):
    """Takes into a dict how far those are apart that are joined in both webs."""
    for at, one in enumerate(scene.living):
        far = far_along(tied, one)
        for other in scene.living[at + 1:]:
            if other in far and other in scene.far[one]:
                raise_to(ways, scene.far[one][other], far[other])


def greatest_share(tops):
    """The greatest of all tops divided by their keys above 0, in lowest terms."""
    best = (0, 1)
    for bottom in tops:
        if bottom > 0 and tops[bottom] * best[1] > best[0] * bottom:
            best = (tops[bottom], bottom)
    shared = gcd(best[0], best[1])
    return (best[0] // shared, best[1] // shared)

"""The healer of woods: a dead place leaves knots, for which the living stand."""

from healedwebs.basics import HeldTies
from healedwebs.healer import rows_by
from healedwebs.histories import check_wood


class WoodHealer:
    """Heals a wood deed by deed: `held.row` is the row of ties behind the last one.

    Places and knots hang below one another in trees: a place below the one to
    which it was tied as it came, and when a place dies, all that hung below it
    hangs in its stead below knots, two below each, as low as can be. Each link
    holds a tie of those who stand for its ends, a place for itself.

    Below knots that hang together there is always one place more than there are
    knots. For each knot one of these places stands, and none for two: so besides
    what its own ties have become it has those of one knot, three, at most. The
    one that is to spare takes over what the next of them to die stood for.

    Knots are numbers, places names.
    """

    def __init__(self):
        self.held = HeldTies()
        self._above = {}
        self._below = {}
        self._stands = {}
        self._duty = {}
        self._knots = 0

    def copied(self):
        """A healer that stands alike, and goes on by itself."""
        other = WoodHealer()
        other.held = self.held.copied()
        other._above = dict(self._above)
        other._below = {node: list(self._below[node]) for node in self._below}
        other._stands = dict(self._stands)
        other._duty = dict(self._duty)
        other._knots = self._knots
        return other

    def come(self, name, ties):
        """A place comes, with one tie at most."""
        self._above[name] = None
        self._below[name] = []
        for tie in ties:
            self._link(tie, name)
        self.held.settle()

    def die(self, name):
        """A place dies: knots replace it, or a knot goes with it if nothing is below it."""
        below = list(self._below[name])
        spare = [self._spare_below(node) for node in below]
        above = self._cut(name)
        for node in below:
            self._cut(node)
        if below:
            top = self._woven(below, spare)
            if above is not None:
                self._link(above, top)
            self._hand_over(name, spare[-1])
        elif above in self._stands:
            self._untie(above, name)
        del self._above[name], self._below[name]
        self.held.settle()

    def _place_of(self, node):
        """The place that stands for a knot; a place itself."""
        return self._stands.get(node, node)

    def _link(self, above, node):
        """Hangs a place or knot, with all below it, below another one."""
        self._above[node] = above
        self._below[above].append(node)
        self.held.hold(self._place_of(above), self._place_of(node))

    def _cut(self, node):
        """Takes a place or knot from the one above it; tells which this was, or None."""
        above = self._above[node]
        if above is not None:
            self._above[node] = None
            self._below[above].remove(node)
            self.held.release(self._place_of(above), self._place_of(node))
        return above

    def _spare_below(self, node):
        """The one of the places below these knots that stands for none; a place itself."""
        places = []
        waiting = [node]
        while waiting:
            one = waiting.pop()
            if one in self._stands:
                waiting.extend(self._below[one])
            else:
                places.append(one)
        return [place for place in places if place not in self._duty][0]

    def _woven(self, nodes, spare):
        """Hangs these below knots, for which all of the spare but the last stand; the top."""
        level = list(nodes)
        left = list(spare[:-1])
        while len(level) > 1:
            over = []
            for one, other in zip(level[0::2], level[1::2]):
                over.append(self._knot(one, other, left.pop()))
            if len(level) % 2 == 1:
                over.append(level[-1])
            level = over
        return level[0]

    def _knot(self, one, other, place):
        """A new knot, for which this place stands, above two others."""
        knot = self._knots
        self._knots += 1
        self._above[knot] = None
        self._below[knot] = []
        self._stands[knot] = place
        self._duty[place] = knot
        self._link(knot, one)
        self._link(knot, other)
        return knot

    def _untie(self, knot, name):
        """Takes away a knot below which one is left, as the other, this place, has died."""
        left = self._below[knot][0]
        self._cut(left)
        above = self._cut(knot)
        if above is not None:
            self._link(above, left)
        free = self._stands[knot]
        del self._above[knot], self._below[knot], self._stands[knot], self._duty[free]
        self._hand_over(name, free)

    def _hand_over(self, name, heir):
        """If a place stood for a knot, the heir stands for it now."""
        if name not in self._duty:
            return
        knot = self._duty[name]
        beside = list(self._below[knot])
        if self._above[knot] is not None:
            beside.append(self._above[knot])
        for node in beside:
            self.held.release(name, self._place_of(node))
        del self._duty[name]
        self._duty[heir] = knot
        self._stands[knot] = heir
        for node in beside:
            self.held.hold(heir, self._place_of(node))


def healed_wood(history):
    """Rows of ties that keep the bounds of woods behind each deed."""
    check_wood(history)
    return rows_by(WoodHealer(), history.deeds)

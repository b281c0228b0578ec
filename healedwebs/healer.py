"""The healer of webs: the slots of each dead part hang together in a tree."""

from healedwebs.basics import HeldTies


class SlotTrees:
    """Trees of slots, pairs (living, dead); each of their links holds a tie.

    Below a slot there are two others at most, and the heights of both, 0 where
    one is lacking, are at most one apart. As the slots are in no order, one may
    be put in where a tree is lowest, and taken away where it is highest: so the
    heights stay close without anything being turned, and few links change.
    """

    def __init__(self, held):
        self._held = held
        self._above = {}
        self._below = {}
        self._height = {}

    def copied(self, held):
        """Trees that stand alike, and hold these ties."""
        other = SlotTrees(held)
        other._above = {slot: self._above[slot] for slot in self._above}
        other._below = {slot: list(self._below[slot]) for slot in self._below}
        other._height = {slot: self._height[slot] for slot in self._height}
        return other

    def without(self, slots):
        """Takes these slots away; the tops of what is left of their trees."""
        by_top = {}
        for slot in slots:
            by_top.setdefault(self._top_of(slot), []).append(slot)
        tops = []
        for top in by_top:
            rest = top
            for slot in by_top[top]:
                rest = self._taken(rest, slot)
            if rest is not None:
                tops.append(rest)
        return tops

    def unite(self, tops, fresh):
        """Makes one tree of the trees of these tops and of fresh slots."""
        waiting = list(fresh)
        whole = None
        for top in tops:
            if whole is None:
                whole = top
            elif waiting:
                whole = self._joined(whole, self._single(waiting.pop()), top)
            else:
                middle, rest = self._leaf_taken(top)
                whole = self._joined(whole, middle, rest)
        for slot in waiting:
            whole = self._put_in(whole, self._single(slot))

    def _top_of(self, slot):
        """The slot at the top of the tree with this one."""
        top = slot
        while self._above[top] is not None:
            top = self._above[top]
        return top

    def _single(self, slot):
        """Makes a tree of a fresh slot alone."""
        self._above[slot] = None
        self._below[slot] = []
        self._height[slot] = 1
        return slot

    def _link(self, above, slot):
        """Hangs a slot, with all below it, below another one."""
        self._above[slot] = above
        self._below[above].append(slot)
        self._held.hold(above[0], slot[0])

    def _cut(self, slot):
        """Takes a slot, with all below it, from the one above it; tells which this was."""
        above = self._above[slot]
        if above is not None:
            self._above[slot] = None
            self._below[above].remove(slot)
            self._held.release(above[0], slot[0])
        return above

    def _measure(self, slot):
        """Works the heights out anew, from this slot upwards."""
        now = slot
        while now is not None:
            self._height[now] = 1 + max([0, *[self._height[one] for one in self._below[now]]])
            now = self._above[now]

    def _lower(self, slot):
        """The lower one below a slot, None if one is lacking there."""
        if len(self._below[slot]) < 2:
            return None
        one, other = self._below[slot]
        return one if self._height[one] <= self._height[other] else other

    def _higher(self, slot):
        """The higher one below a slot, None if none is there."""
        best = None
        for one in self._below[slot]:
            if best is None or self._height[one] > self._height[best]:
                best = one
        return best

    def _put_in(self, top, slot):
        """Puts a single slot into a tree, or makes the tree of it if top is None; the top."""
        if top is None:
            return slot
        spot = top
        while self._lower(spot) is not None:
            spot = self._lower(spot)
        self._link(spot, slot)
        self._measure(spot)
        return top

    def _joined(self, one, middle, other):
        """Makes one tree of two, the second perhaps None, and a single slot; its top."""
        if other is None:
            return self._put_in(one, middle)
        tall, low = one, other
        if self._height[one] < self._height[other]:
            tall, low = other, one
        # A step to the lower one takes one or two off the height: so the two that
        # come below the middle are one apart at most, and where one hung that was
        # no higher than what hangs beside it there is one that is higher by one.
        spot = tall
        while self._height[spot] > self._height[low] + 1:
            spot = self._lower(spot)
        above = self._cut(spot)
        if above is not None:
            self._link(above, middle)
        self._link(middle, spot)
        self._link(middle, low)
        self._measure(middle)
        return self._top_of(middle)

    def _leaf_taken(self, top):
        """Takes a slot from where the tree is highest; it, and the top that is left, or None."""
        leaf = top
        while self._higher(leaf) is not None:
            leaf = self._higher(leaf)
        above = self._cut(leaf)
        if above is None:
            return leaf, None
        self._measure(above)
        return leaf, top

    def _taken(self, top, slot):
        """Takes a slot out of a tree, and forgets it; the top that is left, or None."""
        leaf, rest = self._leaf_taken(top)
        if leaf != slot:
            above = self._cut(slot)
            if above is not None:
                self._link(above, leaf)
            for one in list(self._below[slot]):
                self._cut(one)
                self._link(leaf, one)
            self._measure(leaf)
        del self._above[slot], self._below[slot], self._height[slot]
        return leaf if rest == slot else rest


class WebHealer:
    """Heals a web deed by deed: `held.row` is the row of ties behind the last one.

    Living places are tied if they have an elder tie, and if slots of theirs are
    linked, by which each slot brings three ties at most. The slots of a dead part
    are one tree, whose height is at most twice the figures of the number of elder
    ties; and a way through a dead part takes two elder ties at least.
    """

    def __init__(self):
        self.held = HeldTies()
        self._trees = SlotTrees(self.held)
        self._elder = {}
        self._lives = {}

    def copied(self):
        """A healer that stands alike, and goes on by itself."""
        other = WebHealer()
        other.held = self.held.copied()
        other._trees = self._trees.copied(other.held)
        other._elder = {name: list(self._elder[name]) for name in self._elder}
        other._lives = dict(self._lives)
        return other

    def come(self, name, ties):
        """A place comes with these ties."""
        self._elder[name] = list(ties)
        self._lives[name] = True
        for tie in ties:
            self._elder[tie].append(name)
            self.held.hold(name, tie)
        self.held.settle()

    def die(self, name):
        """A place dies: its slots go, and it makes slots of its living neighbours."""
        self._lives[name] = False
        gone = []
        fresh = []
        for other in self._elder[name]:
            if self._lives[other]:
                self.held.release(name, other)
                fresh.append((other, name))
            else:
                gone.append((name, other))
        self._trees.unite(self._trees.without(gone), fresh)
        self.held.settle()


def rows_by(healer, deeds):
    """The rows that a healer without deeds so far makes behind these deeds."""
    rows = []
    for deed in deeds:
        if deed[0] == "come":
            healer.come(deed[1], deed[2])
        else:
            healer.die(deed[1])
        rows.append(healer.held.row)
    return tuple(rows)


def healed(history):
    """Rows of ties that keep the bounds of webs behind each deed."""
    return rows_by(WebHealer(), history.deeds)

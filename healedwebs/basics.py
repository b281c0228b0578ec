"""What names, bounds, ascending sequences, kinds and pairs are; ties that are held."""

MOST_PLACES = 200
LONGEST_NAME = 8
KINDS = ("web", "wood")


def is_name(value):
    """Whether any value is a string of one to eight letters a to z."""
    # isalpha and islower alone would also take letters beyond ASCII.
    return (isinstance(value, str) and len(value) <= LONGEST_NAME
            and value.isascii() and value.isalpha() and value.islower())


def is_within(value, least, most):
    """Whether any value is an integer from least to most."""
    if not isinstance(value, int) or isinstance(value, bool):
        return False
    return least <= value <= most


def ascends(values):
    """Whether each of these values, which can be compared, is above the one ahead."""
    return all([one < other for one, other in zip(values, values[1:])])


def is_kind(value):
    """Whether any value is a word for a kind of healer."""
    return isinstance(value, str) and value in KINDS


def pair_of(one, other):
    """Two names as an ascending pair."""
    return (one, other) if one < other else (other, one)


class HeldTies:
    """Ties between places, each of them there as long as something holds it.

    Several things may hold the same tie: it is gone with the last of them.
    """

    def __init__(self):
        self.row = ()
        self._holders = {}

    def hold(self, one, other):
        """One thing more holds these two together; a place is not tied to itself."""
        if one != other:
            pair = pair_of(one, other)
            self._holders[pair] = self._holders.get(pair, 0) + 1

    def release(self, one, other):
        """One thing less holds these two together."""
        if one != other:
            pair = pair_of(one, other)
            self._holders[pair] -= 1
            if self._holders[pair] == 0:
                del self._holders[pair]

    def settle(self):
        """Makes the row anew, of all ties that are there now."""
        row = sorted(self._holders)
        # In the order of the row, so that the next sorting finds most of it done.
        self._holders = {tie: self._holders[tie] for tie in row}
        self.row = tuple(row)

    def copied(self):
        """Ties that are held alike, and go on by themselves."""
        other = HeldTies()
        other.row = self.row
        other._holders = {tie: self._holders[tie] for tie in self._holders}
        return other

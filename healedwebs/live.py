"""Webs that are healed as they go, deed by deed."""

from healedwebs.basics import MOST_PLACES, is_kind, is_name
from healedwebs.errors import BadKind, BadName, BadTies, Held, NoPlace, NotWood, TooMany
from healedwebs.healer import WebHealer
from healedwebs.histories import MOST_DEEDS, History, are_living, is_living, led_on, lives_behind
from healedwebs.wills import WoodHealer


class HealedWeb:
    """A history that grows, with the ties that its healer makes behind the last deed."""

    def __init__(self, kind):
        if not is_kind(kind):
            raise BadKind(kind)
        self.kind = kind
        self.past = History("")
        self.names = ()
        self.ties = ()
        self.changed = ((), ())
        self._healer = WoodHealer() if kind == "wood" else WebHealer()

    def __len__(self):
        return len(self.names)

    def __contains__(self, value):
        return isinstance(value, str) and value in self.names

    def come(self, name, ties):
        """A place comes, tied to some of the living."""
        lives = lives_behind(self.past.deeds)
        if not is_name(name):
            raise BadName(name)
        if name in lives:
            raise Held(name)
        if not are_living(ties, lives):
            raise BadTies(ties)
        if self.kind == "wood" and len(ties) > 1:
            raise NotWood(ties)
        self._check_deeds()
        if len(lives) >= MOST_PLACES:
            raise TooMany(MOST_PLACES)
        self._healer.come(name, ties)
        self._go_on(("come", name, ties))

    def die(self, name):
        """A living place dies, and the others tie anew."""
        self._check_living(name)
        self._check_deeds()
        self._healer.die(name)
        self._go_on(("die", name))

    def tied_to(self, name):
        """The living places to which this one is tied, ascending."""
        self._check_living(name)
        return tuple(sorted([one if other == name else other
                             for one, other in self.ties if name in (one, other)]))

    def copy(self):
        """A web that stands alike, and goes on by itself."""
        other = HealedWeb(self.kind)
        other.past = self.past
        other.names = self.names
        other.ties = self.ties
        other.changed = self.changed
        other._healer = self._healer.copied()
        return other

    def _check_living(self, name):
        """Raises NoPlace for what is not the name of a living place."""
        if name not in self:
            raise NoPlace(name)

    def _check_deeds(self):
        """Raises TooMany if no deed more can be done."""
        if len(self.past) >= MOST_DEEDS:
            raise TooMany(MOST_DEEDS)

    def _go_on(self, deed):
        """Takes up a deed that the healer has done."""
        row = self._healer.held.row
        self.changed = (tuple(sorted(set(row) - set(self.ties))),
                        tuple(sorted(set(self.ties) - set(row))))
        self.past = led_on(self.past, deed)
        self.names = self.past.living
        self.ties = row

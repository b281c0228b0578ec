"""All errors of the package."""


class HealError(ValueError):
    """What every error of the package is; it keeps its only argument."""

    def __init__(self, value):
        self.value = value


class BadWeb(HealError):
    """A text is no web: the number of its first wrong line, 0 for no string."""


class BadPlaces(HealError):
    """No ascending tuple of unlike names."""


class BadTies(HealError):
    """No ascending tuple of ties of the places at hand."""


class BadPlace(HealError):
    """Not the name of a place of the web."""


class NoPlaces(HealError):
    """The web has no places."""


class BadHistory(HealError):
    """A text is no history: the number of its first wrong line, 0 for no string."""


class BadDeed(HealError):
    """No deed that can be done here."""


class BadNumber(HealError):
    """No integer as it is asked for."""


class NoPlace(HealError):
    """Not the name of a place of the history."""


class BadRows(HealError):
    """No rows of ties for the history."""


class BadKind(HealError):
    """None of the words that tell a kind."""


class NotWood(HealError):
    """A coming with more than one tie, where all must have one at most."""


class BadName(HealError):
    """No name."""


class Held(HealError):
    """A name that is taken already."""


class TooMany(HealError):
    """No more deeds, or places, than this number."""


class BadRule(HealError):
    """None of the words that tell a rule."""


class BadLimits(HealError):
    """No limits for the places of a tree."""


class NotTree(HealError):
    """No tree for these limits."""


class NoTree(HealError):
    """There is no tree for this."""


class NoThing(HealError):
    """Not the name of a thing of the desk."""


class WrongKind(HealError):
    """The name of a thing of another kind than is asked for."""


class BadPlay(HealError):
    """The number of the first deed that a live web refuses."""


class NothingToUndo(HealError):
    """No deed of the desk stands."""


class NothingToRedo(HealError):
    """No deed of the desk is undone."""


class NoNote(HealError):
    """No note of the desk."""


class BadDesk(HealError):
    """A text is no desk: the number of its first wrong line, 0 for no string."""

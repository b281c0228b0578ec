"""The things of a desk, and what each of its deeds makes of them."""

from healedwebs.basics import is_name
from healedwebs.errors import BadName, BadPlay, HealError, Held, NoThing, WrongKind
from healedwebs.histories import History, elder_web, first_deeds
from healedwebs.live import HealedWeb
from healedwebs.webs import Web


class LiveThing:
    """Where a live web stands; what stands there never changes.

    Its kind and its past tell all of it. So the HealedWeb that brought it there
    may go on to the next thing: it is made anew if it is asked for again.
    """

    def __init__(self, web):
        self.kind = web.kind
        self.past = web.past
        self._web = web

    def healed_web(self):
        """The HealedWeb that stands there."""
        if self._web is None:
            self._web = web_behind(self.kind, self.past.deeds)
        return self._web

    def let_go(self):
        """Keeps the HealedWeb no longer, as it has gone on."""
        self._web = None


def web_behind(kind, deeds):
    """The HealedWeb of this kind that these deeds have led on."""
    web = HealedWeb(kind)
    for deed in deeds:
        go_on(web, deed)
    return web


def go_on(web, deed):
    """A HealedWeb goes on by a deed of a history."""
    if deed[0] == "come":
        web.come(deed[1], deed[2])
    else:
        web.die(deed[1])


def thing_at(things, name):
    """The thing of this name."""
    if not isinstance(name, str) or name not in things:
        raise NoThing(name)
    return things[name]


def kind_of(thing):
    """The word for the kind of a thing."""
    if isinstance(thing, Web):
        return "web"
    return "history" if isinstance(thing, History) else "live"


def thing_of_kind(things, name, kind):
    """The thing of this name, which is to be of this kind."""
    thing = thing_at(things, name)
    if kind_of(thing) != kind:
        raise WrongKind(name)
    return thing


def check_fresh(things, name):
    """Raises the error for what cannot be the name of a new thing."""
    if not is_name(name):
        raise BadName(name)
    if name in things:
        raise Held(name)


# None of the functions that follow puts or drops anything: for an undone deed the
# desk has to know what was there. Each returns the name that the deed is about,
# and what is to be the thing of this name, None for none.

def by_web(things, name, text):
    """What a deed "web" makes."""
    check_fresh(things, name)
    return name, Web(text)


def by_history(things, name, text):
    """What a deed "history" makes."""
    check_fresh(things, name)
    return name, History(text)


def by_elder(things, name, one):
    """What a deed "elder" makes."""
    check_fresh(things, name)
    return name, elder_web(thing_of_kind(things, one, "history"))


def by_first(things, name, one, many):
    """What a deed "first" makes."""
    check_fresh(things, name)
    return name, first_deeds(thing_of_kind(things, one, "history"), many)


def by_past(things, name, one):
    """What a deed "past" makes."""
    check_fresh(things, name)
    return name, thing_of_kind(things, one, "live").past


def by_copy(things, name, other):
    """What a deed "copy" makes."""
    thing = thing_at(things, name)
    check_fresh(things, other)
    return other, thing


def by_drop(things, name):
    """What a deed "drop" makes."""
    thing_at(things, name)
    return name, None


def by_live(things, name, kind):
    """What a deed "live" makes."""
    check_fresh(things, name)
    return name, LiveThing(HealedWeb(kind))


def by_come(things, name, place, ties):
    """What a deed "come" makes."""
    return name, later_thing(thing_of_kind(things, name, "live"), ("come", place, ties))


def by_die(things, name, place):
    """What a deed "die" makes."""
    return name, later_thing(thing_of_kind(things, name, "live"), ("die", place))


def later_thing(thing, deed):
    """The thing that comes of a live one by a deed of a history."""
    web = thing.healed_web()
    go_on(web, deed)
    thing.let_go()
    return LiveThing(web)


def by_play(things, name, one):
    """What a deed "play" makes."""
    thing = thing_of_kind(things, name, "live")
    deeds = thing_of_kind(things, one, "history").deeds
    # A copy goes on: so nothing is done if a later deed is refused.
    web = thing.healed_web().copy()
    for number, deed in enumerate(deeds):
        try:
            go_on(web, deed)
        except HealError:
            raise BadPlay(number) from None
    return name, LiveThing(web)


MAKERS = {"web": by_web, "history": by_history, "elder": by_elder, "first": by_first, "past": by_past,
          "copy": by_copy, "drop": by_drop, "live": by_live, "come": by_come, "die": by_die, "play": by_play}

# How many parts stand behind the word of a deed.
PARTS = {"web": 2, "history": 2, "elder": 2, "first": 3, "past": 2,
         "copy": 2, "drop": 1, "live": 2, "come": 3, "die": 2, "play": 2}


def is_desk_deed(value):
    """Whether any value has the form of a deed of the desk."""
    return (isinstance(value, tuple) and len(value) > 0
            and isinstance(value[0], str) and len(value) - 1 == PARTS.get(value[0], -1))


def made_by(things, deed):
    """What a deed makes: the name that it is about, and its thing then, None for none."""
    maker = MAKERS[deed[0]]
    parts = deed[1:]
    return maker(things, *parts)

"""Plain: desks as section 12 tells them, all things made anew by the deeds that stand, and deeds that are drawn."""

from healedwebs import errors
from healedwebs.desk import desk_text
from healedwebs.histories import History, elder_web, first_deeds
from healedwebs.live import HealedWeb
from healedwebs.webs import Web
from tests.kinds import raised

PARTS = {'web': 2, 'history': 2, 'elder': 2, 'first': 3, 'past': 2, 'copy': 2, 'drop': 1, 'live': 2, 'come': 3,
         'die': 2, 'play': 2}

NAMES = ('a', 'b', 'c', 'd', 'e', 'abcdefgh', 'come', 'web')
PLACES = ('p', 'q', 'r', 's', 't', 'u', 'v', 'die', 'note', 'abcdefgh')
WEBS = ('places', 'places p', 'places p q r\ntie p q\ntie q r', 'places die note p\ntie die p')
HISTORIES = ('', 'come p', 'come p\ncome q p\ncome r p\ndie p', 'come s\ncome t s\ndie s\ncome u t',
             'come p\ncome q\ncome r p q\ncome s r\ndie r', 'come u\ndie u')


def shown(thing):
    """All that can be seen of a thing."""
    if isinstance(thing, (Web, History)):
        return (type(thing).__name__, thing.text)
    return (thing.kind, thing.past.text, thing.names, thing.ties, thing.changed, len(thing))


def state(desk):
    """All that can be seen of a desk."""
    return (desk.names, len(desk), desk.notes(), desk.all_deeds(), desk_text(desk),
            [(name, name in desk, desk.thing_kind(name), shown(desk.thing_of(name))) for name in desk.names])


def web_at(kind, deeds):
    """A live web led by these deeds."""
    web = HealedWeb(kind)
    for deed in deeds:
        step(web, deed)
    return web


def step(web, deed):
    if deed[0] == 'come':
        web.come(*deed[1:])
    else:
        web.die(*deed[1:])


class PlainDesk:
    """Things are ('web', Web), ('history', History), ('live', kind, deeds)."""

    def __init__(self):
        self.deeds, self.undone, self.notes = [], [], {}
        self.things = {}

    def settle(self):
        self.things = {}
        for deed in self.deeds:
            do(self.things, deed)

    def lead(self, deed):
        self.notes = {word: many for word, many in self.notes.items() if many <= len(self.deeds)}
        self.deeds.append(deed)
        self.undone = []
        self.settle()

    def stand_at(self, many):
        both = self.deeds + self.undone
        self.deeds, self.undone = both[:many], both[many:]
        self.settle()

    def state(self):
        """The same as state of a desk, but for its text."""
        seen = [(name, True, thing[0], shown(web_at(*thing[1:]) if thing[0] == 'live' else thing[1]))
                for name, thing in sorted(self.things.items())]
        return (tuple(sorted(self.things)), len(self.things), tuple(sorted(self.notes.items())),
                (tuple(self.deeds), tuple(self.undone)), seen)


def do(things, deed):
    """What a deed that is not refused does to the things."""
    word, name = deed[:2]
    if word == 'web':
        things[name] = ('web', Web(deed[2]))
    elif word == 'history':
        things[name] = ('history', History(deed[2]))
    elif word == 'elder':
        things[name] = ('web', elder_web(things[deed[2]][1]))
    elif word == 'first':
        things[name] = ('history', first_deeds(things[deed[2]][1], deed[3]))
    elif word == 'past':
        things[name] = ('history', web_at(*things[deed[2]][1:]).past)
    elif word == 'copy':
        things[deed[2]] = things[name]
    elif word == 'drop':
        del things[name]
    elif word == 'live':
        things[name] = ('live', deed[2], ())
    elif word == 'play':
        things[name] = things[name][:2] + (things[name][2] + things[deed[2]][1].deeds,)
    else:
        things[name] = things[name][:2] + (things[name][2] + ((word, *deed[2:]),),)


def wrong_with(things, deed):
    """The error, with its value, that a deed raises first; None if it is done."""
    if not (isinstance(deed, tuple) and deed and isinstance(deed[0], str) and len(deed) - 1 == PARTS.get(deed[0])):
        return (errors.BadDeed, deed)
    word, *parts = deed
    if word in ('web', 'history'):
        return fresh(things, parts[0]) or raised(Web if word == 'web' else History, parts[1])
    if word in ('elder', 'first', 'past'):
        wrong = fresh(things, parts[0]) or lacking(things, parts[1], 'live' if word == 'past' else 'history')
        if wrong is None and word == 'first':
            return raised(first_deeds, things[parts[1]][1], parts[2])
        return wrong
    if word == 'copy':
        return lacking(things, parts[0]) or fresh(things, parts[1])
    if word == 'drop':
        return lacking(things, parts[0])
    if word == 'live':
        return fresh(things, parts[0]) or raised(HealedWeb, parts[1])
    wrong = lacking(things, parts[0], 'live')
    if wrong is None and word == 'play':
        wrong = lacking(things, parts[1], 'history')
    if wrong is not None:
        return wrong
    web = web_at(*things[parts[0]][1:])
    if word == 'come':
        return raised(web.come, *parts[1:])
    if word == 'die':
        return raised(web.die, *parts[1:])
    for number, deed_of_it in enumerate(things[parts[1]][1].deeds):
        if raised(step, web, deed_of_it):
            return (errors.BadPlay, number)
    return None


def fresh(things, name):
    if not (type(name) is str and 1 <= len(name) <= 8 and all('a' <= sign <= 'z' for sign in name)):
        return (errors.BadName, name)
    return (errors.Held, name) if name in things else None


def lacking(things, name, kind=None):
    if type(name) is not str or name not in things:
        return (errors.NoThing, name)
    return (errors.WrongKind, name) if kind not in (None, things[name][0]) else None


def drawn_deed(dice, things):
    """A deed for these things, which mostly is not refused."""
    def some(kind):
        names = [name for name, thing in things.items() if thing[0] == kind]
        return dice.choice(names) if names and dice.random() < 0.95 else dice.choice(NAMES)
    unused = [name for name in NAMES if name not in things]
    new = dice.choice(unused) if unused and dice.random() < 0.95 else dice.choice(NAMES)
    word = dice.choice([*PARTS, 'live', *['come', 'die', 'play'] * 3])
    if word == 'web':
        return (word, new, dice.choice(WEBS))
    if word == 'history':
        return (word, new, dice.choice(HISTORIES))
    if word == 'first':
        return (word, new, some('history'), dice.randint(0, 4))
    if word in ('elder', 'past'):
        return (word, new, some('history' if word == 'elder' else 'live'))
    if word == 'copy':
        return (word, dice.choice([*things, *NAMES]), new)
    if word == 'drop':
        return (word, dice.choice([*things, *NAMES]))
    if word == 'live':
        return (word, new, dice.choice(['web', 'wood']))
    if word == 'play':
        return (word, some('live'), some('history'))
    return drawn_step(dice, things, word, some('live'))


def drawn_step(dice, things, word, name):
    """A coming or a death in a live web."""
    thing = things.get(name, ('live', 'web', ()))
    living = web_at(*thing[1:]).names if thing[0] == 'live' else ()
    if word == 'die':
        return (word, name, dice.choice(living or PLACES) if dice.random() < 0.95 else dice.choice(PLACES))
    many = dice.choice([0, 1, 1, 1, 2]) if thing[1] == 'web' or dice.random() < 0.1 else dice.choice([0, 1, 1])
    return (word, name, dice.choice(PLACES), tuple(sorted(dice.sample(living, min(many, len(living))))))


def drawn_play(dice, desk, plain, many):
    """Leads, undoes, redoes, notes and goes back on both desks alike, by chance."""
    for _ in range(many):
        roll = dice.random()
        if roll < 0.6:
            deed = drawn_deed(dice, plain.things)
            if wrong_with(plain.things, deed) is None:
                desk.lead(deed)
                plain.lead(deed)
        elif roll < 0.72 and plain.deeds:
            desk.undo()
            plain.stand_at(len(plain.deeds) - 1)
        elif roll < 0.84 and plain.undone:
            desk.redo()
            plain.stand_at(len(plain.deeds) + 1)
        elif roll < 0.94:
            word = dice.choice(NAMES)
            desk.note(word)
            plain.notes[word] = len(plain.deeds)
        elif plain.notes:
            word = dice.choice(sorted(plain.notes))
            desk.back(word)
            plain.stand_at(plain.notes[word])

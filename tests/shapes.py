"""Comings that draw webs of many shapes, and ways to choose who dies next."""

from healedwebs.live import HealedWeb


def name_of(number):
    """Unlike names, which do not ascend with the numbers."""
    letters = 'qwertyuiopasdfghjklzxcvbnm'
    return letters[number % 26] + letters[number // 26 % 26] + letters[number // 676]


def drawn(beside):
    """Comings for lists of the numbers of earlier places to which each is tied."""
    return [('come', name_of(number), tuple(sorted([name_of(other) for other in others])))
            for number, others in enumerate(beside)]


def star(ends):
    return drawn([[]] + [[0]] * ends)


def stars_of_stars(inner, outer):
    """A middle with so many ends, each of which has so many ends."""
    return drawn([[]] + [[0]] * inner + [[1 + number // outer] for number in range(inner * outer)])


def line(many):
    return drawn([[number - 1] if number else [] for number in range(many)])


def ring(many):
    return drawn([[number - 1] if number else [] for number in range(many - 1)] + [[0, many - 2]])


def comb(many):
    """A line, each place of which has an end."""
    return drawn([[number - 1] if number else [] for number in range(many)]
                 + [[number] for number in range(many)])


def grid(wide, high):
    beside = []
    for number in range(wide * high):
        beside.append([number - 1] if number % wide else [])
        if number >= wide:
            beside[-1].append(number - wide)
    return drawn(beside)


def full(many):
    return drawn([list(range(number)) for number in range(many)])


def lone(many):
    return drawn([[]] * many)


def halves(many):
    """A wood in which each place has two below it."""
    return drawn([[(number - 1) // 2] if number else [] for number in range(many)])


def random_web_comings(dice, many, most, fresh=0):
    """Each place is tied to some of those ahead, at most so many; some begin new parts."""
    beside = []
    for number in range(many):
        if dice.random() < fresh:
            beside.append([])
        else:
            beside.append(dice.sample(range(number), min(number, dice.randint(min(1, most), most))))
    return drawn(beside)


def random_wood_comings(dice, many, heads, fresh=0.02):
    """Each place is tied to one of those ahead, mostly to one of the first so many."""
    beside = []
    for number in range(many):
        if number == 0 or dice.random() < fresh:
            beside.append([])
        else:
            beside.append([dice.randrange(min(number, heads) if dice.random() < 0.8 else number)])
    return drawn(beside)


def beside_each(*parts):
    """Several webs beside one another, their comings in turns."""
    many = 0
    out = []
    for part in parts:
        names = {deed[1]: name_of(many + at) for at, deed in enumerate(part)}
        many += len(part)
        out.append([('come', names[deed[1]], tuple(sorted([names[other] for other in deed[2]])))
                    for deed in part])
    deeds = []
    while any(out):
        for part in out:
            if part:
                deeds.append(part.pop(0))
    return deeds


def ties_now(web, name):
    return len([tie for tie in web.ties if name in tie])


def came(web):
    """The names of the living in the order in which they came."""
    return [deed[1] for deed in web.past.deeds if deed[0] == 'come' and deed[1] in web]


def first_comer(web, last):
    return came(web)[0]


def last_comer(web, last):
    return came(web)[-1]


def middle_comer(web, last):
    living = came(web)
    return living[len(living) // 2]


def busiest(web, last):
    """Who has most ties now; of several the first by name."""
    return min(web.names, key=lambda name: (-ties_now(web, name), name))


def idlest(web, last):
    return min(web.names, key=lambda name: (ties_now(web, name), name))


def beside_dead(web, last):
    """One who was tied to the last dead one, the busiest of them; else anybody."""
    near = [name for name in web.names if name in last] or web.names
    return min(near, key=lambda name: (-ties_now(web, name), name))


def most_elder(web, last):
    """Who has most elder ties."""
    told = [word for deed in web.past.deeds if deed[0] == 'come' for word in (deed[1],) * len(deed[2]) + deed[2]]
    return min(web.names, key=lambda name: (-told.count(name), name))


def by_chance(dice):
    return lambda web, last: dice.choice(web.names)


CHOICES = (first_comer, last_comer, middle_comer, busiest, idlest, beside_dead, most_elder)


def led(web, deeds):
    """The live web, led on by these deeds."""
    for deed in deeds:
        if deed[0] == 'come':
            web.come(*deed[1:])
        else:
            web.die(deed[1])
    return web


def eaten(kind, comings, choose, left=0):
    """The live web behind the comings and as many deaths as leave so many."""
    web = led(HealedWeb(kind), comings)
    last = ()
    while len(web) > left:
        name = choose(web, last)
        last = web.tied_to(name)
        web.die(name)
    return web


def amid(kind, comings, dice, choose, rate, most):
    """Comings amid deaths: those who come later are tied to neighbours of the last dead."""
    web = HealedWeb(kind)
    last = ()
    waiting = list(comings)
    fresh = 0
    while len(web.past) < 300 and (waiting or len(web)):
        roll = dice.random()
        if len(web) and (roll < rate or not waiting):
            name = choose(web, last)
            last = web.tied_to(name)
            web.die(name)
        else:
            deed = waiting.pop(0)
            near = [name for name in last if name in web] or list(web.names)
            if all(other in web for other in deed[2]) and roll < 0.8:
                web.come(*deed[1:])
            else:
                fresh += 1
                many = min(len(near), dice.randint(0 if most > 1 else min(1, len(near)), most))
                web.come(deed[1], tuple(sorted(dice.sample(near, many))))
    return web

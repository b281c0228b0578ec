"""Slow and plain models of what the package tells, and random webs and histories."""

import random

FAR = 10 ** 6


def random_web(dice):
    """Places and ties, as web_of takes them."""
    places = tuple(sorted(dice.sample('abcdefghijklmnopqrstuvwxyz', dice.randint(0, 9))))
    pairs = [(one, other) for one in places for other in places if one < other]
    rate = dice.choice([0.1, 0.2, 0.3, 0.6, 1])
    return places, tuple([pair for pair in pairs if dice.random() < rate])


def all_ways(places, ties):
    """How far any two places are apart, FAR if they are not joined."""
    far = {(one, other): FAR for one in places for other in places}
    for place in places:
        far[place, place] = 0
    for one, other in ties:
        far[one, other] = far[other, one] = 1
    for middle in places:
        for one in places:
            for other in places:
                way = far[one, middle] + far[middle, other]
                far[one, other] = min(far[one, other], way)
    return far


def has_ring(places, ties):
    """Whether striking loose ends, as long as there are any, leaves ties."""
    left = list(ties)
    while True:
        ends = [place for place in places if len([tie for tie in left if place in tie]) == 1]
        if not ends:
            return bool(left)
        left = [tie for tie in left if ends[0] not in tie]


def random_lines(dice, many):
    """The lines of a history with at most this many deeds."""
    fresh = [one + other for one in 'zaqxm' for other in 'ykbnw']
    dice.shuffle(fresh)
    living, lines = [], []
    most = dice.choice([1, 2, 5])
    for _ in range(many):
        if living and (not fresh or dice.random() < 0.4):
            lines.append('die ' + living.pop(dice.randrange(len(living))))
        elif fresh:
            ties = sorted(dice.sample(living, min(len(living), dice.randint(0, most))))
            lines.append(' '.join(['come', fresh[-1], *ties]))
            living.append(fresh.pop())
    return lines


class Told:
    """What the lines of a right history tell."""

    def __init__(self, lines):
        self.came, self.dead, self.ties = [], [], []
        for line in lines:
            word, name, *others = line.split(' ')
            if word == 'die':
                self.dead.append(name)
            else:
                self.came.append(name)
                self.ties.extend([tuple(sorted((name, other))) for other in others])
        self.living = [name for name in self.came if name not in self.dead]

    def dead_ways(self):
        """How far dead places are apart along dead places alone."""
        among = [tie for tie in self.ties if set(tie) <= set(self.dead)]
        return all_ways(self.dead, among)


def dice_of(number):
    """The same row of random choices for each number."""
    return random.Random(number)

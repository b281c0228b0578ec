"""Histories of many shapes, the same ones each time."""

from healedwebs.histories import History
from tests.models import dice_of, random_lines
from tests.plays import behind, mixed
from tests.shapes import (beside_each, comb, full, grid, halves, line, lone, random_web_comings, random_wood_comings,
                          ring, star, stars_of_stars)


def small_shapes():
    """Comings of all shapes, of up to some twenty places."""
    return [star(1), star(2), star(3), star(4), star(9), line(2), line(12), ring(3), ring(4), ring(5), ring(13),
            full(2), full(3), full(4), full(8), lone(5), comb(6), grid(4, 4), halves(15), stars_of_stars(3, 4),
            beside_each(star(4), ring(6), full(4)), beside_each(line(5), line(5), lone(2)),
            beside_each(full(5), full(5))]


def shaped_histories(each=3):
    """Each of the shapes, eaten up in several orders: as they came, turned about, drawn."""
    for number, comings in enumerate(small_shapes()):
        names = [deed[1] for deed in comings]
        yield behind(comings, names)
        yield behind(comings, names[::-1])
        for turn in range(each):
            dice = dice_of(1000 * number + turn)
            yield behind(comings, dice.sample(names, dice.randint(1, len(names))))
            yield mixed(dice, comings, dice.choice([0.2, 0.4]))


def drawn_histories(many, first=0):
    """Webs and woods with comings amid deaths, and some with all comings first."""
    for number in range(first, first + many):
        dice = dice_of(number)
        size = dice.choice([6, 12, 18])
        draw = dice.randrange(4)
        if draw == 0:
            yield History('\n'.join(random_lines(dice, dice.choice([8, 20, 45]))))
            continue
        if draw == 1:
            comings = random_wood_comings(dice, size, dice.choice([1, 3, size]), dice.choice([0.02, 0.2]))
        else:
            comings = random_web_comings(dice, size, dice.choice([2, 3, 5]), dice.choice([0, 0.15]))
        if draw == 3:
            names = [deed[1] for deed in comings]
            yield behind(comings, dice.sample(names, dice.randint(0, size)))
        else:
            yield mixed(dice, comings, dice.choice([0.1, 0.3, 0.45]))


def great_histories():
    """Some of up to 200 places and 400 deeds."""
    for number, comings in enumerate((star(199), line(200), ring(200), halves(200), stars_of_stars(9, 19), grid(14, 14),
                                      random_wood_comings(dice_of(1), 200, 12),
                                      random_web_comings(dice_of(2), 200, 3))):
        names = [deed[1] for deed in comings]
        dice = dice_of(number)
        yield behind(comings, dice.sample(names, len(names)))
        yield mixed(dice, comings, 0.3)


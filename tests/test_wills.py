"""healed_wood: what it promises of woods, behind each deed of many histories; what is no wood."""

import unittest

from healedwebs.errors import NotWood
from healedwebs.histories import History, first_deeds, is_wood_history
from healedwebs.judged import is_rows, judged
from healedwebs.live import HealedWeb
from healedwebs.wills import healed_wood
from tests.bounds import first_wrong
from tests.kinds import Raises
from tests.models import dice_of, random_lines
from tests.shapes import (CHOICES, amid, beside_dead, beside_each, busiest, by_chance, comb, drawn, eaten, first_comer,
                          halves, idlest, last_comer, led, line, lone, middle_comer, most_elder, name_of,
                          random_wood_comings, star, stars_of_stars)


class Keeps(unittest.TestCase, Raises):
    """For test cases: all bounds of woods behind each deed of what a live web has done."""

    def keeps(self, web):
        rows = healed_wood(web.past)
        wrong = first_wrong(web.past.deeds, rows, 'wood')
        self.assertIsNone(wrong, web.past.text)
        self.assertEqual(rows[-1], web.ties)
        return rows

    def eaten_up(self, comings, *choices):
        for choose in choices:
            self.keeps(eaten('wood', comings, choose))


class TestHealedWood(Keeps):

    def test_no_deeds(self):
        self.assertEqual(healed_wood(History('')), ())
        self.assertEqual(healed_wood(history=History('come a')), ((),))

    def test_what_each_healer_must_do(self):
        self.assertEqual(healed_wood(History('come a\ncome b a\ncome c a\ndie a\ncome d c')),
                         ((), (('a', 'b'),), (('a', 'b'), ('a', 'c')), (('b', 'c'),), (('b', 'c'), ('c', 'd'))))
        self.assertEqual(healed_wood(History('come a\ncome b a\ndie b\ncome c a\ndie a\ndie c')),
                         ((), (('a', 'b'),), (), (('a', 'c'),), (), ()))

    def test_kinds_of_values(self):
        history = History('come a\ncome b a\ncome c b\ncome d b\ndie b')
        rows = healed_wood(history)
        self.assertIs(type(rows), tuple)
        for row in rows:
            self.assertIs(type(row), tuple)
            self.assertEqual([type(tie) for tie in row], [tuple] * len(row))
        self.assertTrue(is_rows(history, rows))
        self.assertEqual(history.text, 'come a\ncome b a\ncome c b\ncome d b\ndie b')

    def test_random_histories(self):
        many = 0
        for number in range(500):
            dice = dice_of(number)
            history = History('\n'.join(random_lines(dice, dice.choice([10, 30, 50]))))
            if is_wood_history(history):
                many += 1
                rows = healed_wood(history)
                self.assertIsNone(first_wrong(history.deeds, rows, 'wood'), history.text)
                self.assertEqual(judged(history, rows, 'wood'), ('kept',))
                self.assertEqual(healed_wood(History(history.text)), rows)
        self.assertGreater(many, 100)


class TestNoWoods(Keeps):

    def test_first_coming_with_several_ties(self):
        for number, text in ((2, 'come a\ncome b\ncome c a b'),
                             (3, 'come a\ncome b a\ncome c\ncome d a c\ncome e a b c d'),
                             (4, 'come a\ncome b\ncome c\ncome d\ncome e a b c d'),
                             (5, 'come a\ncome b a\ncome c a\ndie a\ncome d c\ncome e b c\ncome f b c'),
                             (6, 'come a\ndie a\ncome b\ndie b\ncome c\ncome d\ncome e c d\ndie e')):
            self.raises(NotWood, number, healed_wood, History(text))
            self.raises(NotWood, number, healed_wood, history=History(text))

    def test_an_elder_web_without_rings_is_not_enough(self):
        self.raises(NotWood, 2, healed_wood, History('come a\ncome b\ncome c a b\ndie c'))

    def test_random_histories(self):
        for number in range(100):
            history = History('\n'.join(random_lines(dice_of(number), 20)))
            several = [at for at, deed in enumerate(history.deeds) if len(deed) == 3 and len(deed[2]) > 1]
            if several:
                self.raises(NotWood, several[0], healed_wood, history)
            else:
                self.assertEqual(len(healed_wood(history)), len(history))


class TestShapes(Keeps):

    def test_stars(self):
        for ends in range(0, 24):
            self.eaten_up(star(ends), first_comer, last_comer)
        for ends in (3, 6, 13, 40):
            self.eaten_up(star(ends), *CHOICES)

    def test_one_two_and_three_more_than_a_power_of_two(self):
        for power in (4, 8, 16, 32, 64):
            for more in (-1, 0, 1, 2, 3):
                self.eaten_up(star(power + more), first_comer)
                self.eaten_up(halves(power + more), busiest)

    def test_great_stars(self):
        for choose in (busiest, idlest, beside_dead):
            self.eaten_up(star(190), lambda web, last, by=choose: name_of(0) if name_of(0) in web else by(web, last))

    def test_stars_of_stars(self):
        for inner, outer in ((2, 2), (3, 5), (5, 3), (7, 7)):
            self.eaten_up(stars_of_stars(inner, outer), *CHOICES)
        self.eaten_up(stars_of_stars(13, 14), first_comer, last_comer, busiest)

    def test_stars_of_stars_of_stars(self):
        beside = [[]] + [[0]] * 5 + [[1 + at // 4] for at in range(20)] + [[6 + at // 5] for at in range(100)]
        self.eaten_up(drawn(beside), first_comer, busiest, by_chance(dice_of(5)))

    def test_lines_and_combs(self):
        for comings in (line(2), line(3), line(33), comb(1), comb(4), comb(20)):
            self.eaten_up(comings, *CHOICES)
        self.eaten_up(line(200), middle_comer)
        self.eaten_up(comb(100), first_comer, busiest)

    def test_parents_first_and_children_first(self):
        # Comings are in the order of the woods: from the first, from the last, each from the middle.
        for comings in (halves(63), stars_of_stars(6, 6), comb(25), random_wood_comings(dice_of(3), 70, 5)):
            self.eaten_up(comings, first_comer, last_comer, middle_comer)

    def test_several_woods(self):
        comings = beside_each(star(9), halves(12), line(6), comb(4), lone(3), stars_of_stars(3, 3))
        self.eaten_up(comings, *CHOICES, by_chance(dice_of(1)))

    def test_lone_places(self):
        self.eaten_up(lone(6), first_comer, busiest)

    def test_random_woods(self):
        for number in range(80):
            dice = dice_of(number)
            many = dice.choice([8, 25, 60])
            comings = random_wood_comings(dice, many, dice.choice([1, 2, 4, many]), dice.choice([0, 0.1]))
            self.eaten_up(comings, dice.choice(CHOICES), by_chance(dice))

    def test_two_hundred_comings_and_then_all_deaths(self):
        for number, heads, choose in ((1, 1, busiest), (2, 6, most_elder), (3, 40, beside_dead)):
            web = eaten('wood', random_wood_comings(dice_of(number), 200, heads), choose)
            self.assertEqual((len(web.past), len(web)), (400, 0))
            self.keeps(web)


class TestComingsAmidDeaths(Keeps):

    def test_tied_to_those_that_have_just_been_healed(self):
        for number in range(80):
            dice = dice_of(number)
            many = dice.choice([10, 30, 70])
            comings = random_wood_comings(dice, many, dice.choice([1, 2, 5, many]), 0.05)
            choose = dice.choice([*CHOICES, by_chance(dice)])
            self.keeps(amid('wood', comings, dice, choose, dice.choice([0.2, 0.4, 0.5]), 1))

    def test_each_who_stands_for_much_gets_ends_and_dies(self):
        web = led(HealedWeb('wood'), star(20))
        web.die(name_of(0))
        number = 21
        while number < 120:
            name = busiest(web, ())
            for _ in range(3):
                web.come(name_of(number), (name,))
                number += 1
            web.die(name)
        self.keeps(web)

    def test_all_die_and_then_others_come(self):
        for choose in (busiest, idlest, first_comer):
            web = eaten('wood', stars_of_stars(4, 5), choose)
            for number in range(25, 60):
                web.come(name_of(number), (name_of(25 + (number - 26) // 3),) if number > 25 else ())
            while len(web):
                web.die(choose(web, ()))
            self.keeps(web)


class TestKnots(unittest.TestCase):
    """The knots that dead places leave, from within."""

    def stands(self, healer, history):
        above, below, stands = healer._above, healer._below, healer._stands
        self.assertEqual(sorted([node for node in above if node not in stands]), list(history.living))
        self.assertEqual(set(above), set(below))
        for node in above:
            self.assertTrue(all(above[one] == node for one in below[node]))
            self.assertTrue(above[node] is None or node in below[above[node]])
            self.assertTrue(node not in stands or len(below[node]) == 2)
        self.assertEqual({place: knot for knot, place in stands.items()}, healer._duty)
        self.assertEqual(len(stands), len(healer._duty))
        held = set()
        for node in above:
            self.assertIn(healer._place_of(node), history.living)
            ends = tuple(sorted([healer._place_of(node), healer._place_of(above[node])])) if above[node] is not None else ()
            held |= {ends} if len(set(ends)) == 2 else set()
        self.assertEqual(healer.held.row, tuple(sorted(held)))
        for knot in stands:
            if above[knot] not in stands:
                self.hangs(healer, knot)

    def hangs(self, healer, top):
        """Of the places below knots that hang together each but one stands for one of them."""
        knots, places, waiting = [], [], [top]
        while waiting:
            node = waiting.pop()
            if node in healer._stands:
                knots.append(node)
                waiting.extend(healer._below[node])
            else:
                places.append(node)
        standing = [healer._stands[knot] for knot in knots]
        self.assertEqual(len(set(standing)), len(knots))
        self.assertEqual(len(places), len(knots) + 1)
        self.assertLessEqual(set(standing), set(places))

    def follows(self, deeds):
        web = HealedWeb('wood')
        for deed in deeds:
            led(web, [deed])
            self.stands(web._healer, web.past)
            self.stands(web.copy()._healer, web.past)

    def test_drawn_woods(self):
        for number in range(60):
            dice = dice_of(number)
            comings = random_wood_comings(dice, 40, dice.choice([1, 3, 40]), 0.05)
            self.follows(amid('wood', comings, dice, by_chance(dice), 0.4, 1).past.deeds)

    def test_shapes(self):
        for number, comings in enumerate((star(30), comb(12), halves(31), stars_of_stars(4, 5), line(20))):
            for choose in (busiest, most_elder, last_comer, by_chance(dice_of(number))):
                self.follows(eaten('wood', comings, choose).past.deeds)

    def test_as_low_as_can_be(self):
        for ends in range(1, 70):
            web = led(HealedWeb('wood'), star(ends))
            web.die(name_of(0))
            healer = web._healer
            depths = []
            for name in web.names:
                node, depth = name, 0
                while healer._above[node] is not None:
                    node, depth = healer._above[node], depth + 1
                depths.append(depth)
            self.assertEqual(2 ** max(depths) < 2 * ends, True)


class TestNothingLaterCounts(Keeps):

    def test_beginnings(self):
        for number in range(40):
            dice = dice_of(number)
            web = amid('wood', random_wood_comings(dice, 20, 3), dice, by_chance(dice), 0.4, 1)
            rows = healed_wood(web.past)
            for many in range(len(web.past) + 1):
                self.assertEqual(healed_wood(first_deeds(web.past, many)), rows[:many])

    def test_alike_up_to_a_deed(self):
        for number in range(20):
            dice = dice_of(number)
            web = eaten('wood', random_wood_comings(dice, 24, 3), by_chance(dice), left=12)
            many = len(web.past)
            others = [web.copy() for _ in range(4)]
            for other in others:
                while len(other):
                    other.die(by_chance(dice)(other, ()))
            for other in others:
                self.assertEqual(healed_wood(other.past)[:many], healed_wood(web.past))
            self.assertGreater(len({other.past.text for other in others}), 1)

"""healed: what it promises of webs, behind each deed of many histories."""

import unittest

from healedwebs.basics import pair_of
from healedwebs.healer import healed
from healedwebs.histories import History, dead_parts, elder_web, first_deeds, slots
from healedwebs.judged import is_rows, judged
from healedwebs.live import HealedWeb
from tests.bounds import first_wrong
from tests.models import dice_of, random_lines
from tests.shapes import (CHOICES, amid, beside_dead, beside_each, busiest, by_chance, came, drawn, eaten, first_comer,
                          full, grid, halves, idlest, last_comer, led, line, lone, middle_comer, most_elder,
                          name_of, random_web_comings, ring, star, stars_of_stars)


class Keeps(unittest.TestCase):
    """For test cases: all bounds of webs behind each deed of what a live web has done."""

    def keeps(self, web):
        rows = healed(web.past)
        wrong = first_wrong(web.past.deeds, rows, 'web')
        self.assertIsNone(wrong, web.past.text)
        self.assertEqual(rows[-1], web.ties)
        return rows

    def eaten_up(self, comings, *choices):
        for choose in choices:
            self.keeps(eaten('web', comings, choose))


class TestHealed(Keeps):

    def test_no_deeds(self):
        self.assertEqual(healed(History('')), ())
        self.assertEqual(healed(history=History('come a')), ((),))

    def test_what_each_healer_must_do(self):
        self.assertEqual(healed(History('come a\ncome b a\ncome c b\ndie b')),
                         ((), (('a', 'b'),), (('a', 'b'), ('b', 'c')), (('a', 'c'),)))
        self.assertEqual(healed(History('come a\ncome b a\ndie a\ncome c b\ndie c\ndie b')),
                         ((), (('a', 'b'),), (), (('b', 'c'),), (), ()))
        self.assertEqual(healed(History('come a\ncome b\ncome c a b\ndie c\ncome d\ndie d'))[3:],
                         ((('a', 'b'),),) * 3)

    def test_comings_put_in_just_their_ties(self):
        rows = healed(History('come c\ncome a c\ncome b a c\ncome d'))
        self.assertEqual(rows, ((), (('a', 'c'),), (('a', 'b'), ('a', 'c'), ('b', 'c')),
                                (('a', 'b'), ('a', 'c'), ('b', 'c'))))

    def test_kinds_of_values(self):
        history = History('come a\ncome b a\ncome c b\ncome d b\ndie b')
        rows = healed(history)
        self.assertIs(type(rows), tuple)
        for row in rows:
            self.assertIs(type(row), tuple)
            self.assertEqual([type(tie) for tie in row], [tuple] * len(row))
        self.assertTrue(is_rows(history, rows))
        self.assertEqual(history.text, 'come a\ncome b a\ncome c b\ncome d b\ndie b')

    def test_equal_calls(self):
        for number in range(20):
            text = '\n'.join(random_lines(dice_of(number), 30))
            self.assertEqual(healed(History(text)), healed(History(text)))

    def test_random_histories(self):
        for number in range(250):
            dice = dice_of(number)
            history = History('\n'.join(random_lines(dice, dice.choice([10, 30, 50]))))
            rows = healed(history)
            self.assertIsNone(first_wrong(history.deeds, rows, 'web'), history.text)
            self.assertEqual(judged(history, rows, 'web'), ('kept',))


class TestShapes(Keeps):

    def test_stars(self):
        for ends in (0, 1, 2, *range(3, 20), 31, 32, 33, 34, 63, 64, 65, 66):
            self.eaten_up(star(ends), first_comer)
        for ends in (3, 6, 13, 40):
            self.eaten_up(star(ends), *CHOICES)

    def test_great_stars(self):
        for choose in (busiest, idlest, beside_dead):
            web = led(HealedWeb('web'), star(190))
            web.die(name_of(0))
            last = web.names
            while len(web):
                name = choose(web, last)
                last = web.tied_to(name)
                web.die(name)
            self.keeps(web)

    def test_stars_of_stars(self):
        for inner, outer in ((2, 2), (3, 5), (5, 3), (7, 7)):
            self.eaten_up(stars_of_stars(inner, outer), *CHOICES)
        self.eaten_up(stars_of_stars(13, 14), first_comer, busiest)

    def test_lines_rings_and_grids(self):
        for comings in (line(2), line(3), line(33), ring(3), ring(4), ring(30), grid(2, 9), grid(5, 6)):
            self.eaten_up(comings, *CHOICES)
        self.eaten_up(grid(14, 14), most_elder)
        self.eaten_up(line(200), middle_comer)

    def test_full_webs(self):
        for many in (3, 4, 9, 20):
            self.eaten_up(full(many), *CHOICES)
        self.eaten_up(full(60), last_comer)

    def test_two_rows_all_tied_across(self):
        # Whoever of one row dies leaves a slot to each of the other.
        for wide, high in ((2, 6), (4, 9), (8, 8)):
            comings = drawn([[]] * wide + [list(range(wide))] * high)
            self.eaten_up(comings, *CHOICES)

    def test_several_parts(self):
        comings = beside_each(star(9), grid(3, 4), line(6), full(5), lone(3), halves(12))
        self.eaten_up(comings, *CHOICES, by_chance(dice_of(1)))

    def test_lone_places(self):
        self.eaten_up(lone(6), first_comer, busiest)

    def test_every_other_of_a_line(self):
        # Dead parts with one slot each come to be, and then one great part.
        names = [deed[1] for deed in line(61)]
        web = led(HealedWeb('web'), line(61))
        for name in names[1::4] + names[3::4] + names[2::4]:
            web.die(name)
        self.keeps(web)

    def test_one_who_holds_many_dead_parts_together(self):
        # Stars die at their middles; then the one who has an end in all of them dies.
        for many, ends in ((2, 3), (5, 4), (9, 7), (12, 12)):
            beside = [[]] * many + [[at] for at in range(many) for _ in range(ends)] + [list(range(many))]
            web = led(HealedWeb('web'), drawn(beside))
            for at in range(many):
                web.die(name_of(at))
            web.die(name_of(len(beside) - 1))
            while len(web):
                web.die(busiest(web, ()))
            self.keeps(web)

    def test_small_dead_parts_that_join_a_great_one(self):
        # Each of many ends of a star has a neighbour with an end of its own; the
        # middle dies, and those neighbours, and then the ends of the star.
        for many, left in ((20, 4), (66, 10)):
            beside = [[]] * (many + 1) + [[at] for at in range(many)] + [[at, many] for at in range(many)]
            for order in (1, -1):
                web = led(HealedWeb('web'), drawn(beside))
                for at in [many, *range(many), *list(range(2 * many + 1, 3 * many + 1 - left))[::order]]:
                    web.die(name_of(at))
                self.keeps(web)

    def test_dead_parts_without_slots_beside_others(self):
        # All neighbours of the one who dies are dead, and have no other living ones.
        web = led(HealedWeb('web'), drawn([[], [0], [1], [2], [0]]))
        for at in (1, 3, 2, 0, 4):
            web.die(name_of(at))
        self.keeps(web)

    def test_random_webs(self):
        for number in range(60):
            dice = dice_of(number)
            comings = random_web_comings(dice, dice.choice([8, 25, 60]), dice.choice([1, 2, 4, 9]), dice.choice([0, 0.1]))
            self.eaten_up(comings, dice.choice(CHOICES), by_chance(dice))


class TestComingsAmidDeaths(Keeps):

    def test_tied_to_neighbours_of_the_dead(self):
        for number in range(60):
            dice = dice_of(number)
            comings = random_web_comings(dice, dice.choice([10, 30, 70]), dice.choice([1, 3, 6]), 0.05)
            choose = dice.choice([*CHOICES, by_chance(dice)])
            self.keeps(amid('web', comings, dice, choose, dice.choice([0.2, 0.4, 0.5]), dice.choice([1, 2, 5])))

    def test_all_die_and_then_others_come(self):
        for choose in (busiest, idlest, first_comer):
            web = eaten('web', stars_of_stars(4, 5), choose)
            many = len(web.past.living + web.past.dead)
            for at, deed in enumerate(grid(5, 5)):
                names = [name_of(many + number) for number in range(26)]
                told = {deed[1]: names[number] for number, deed in enumerate(grid(5, 5))}
                web.come(names[at], tuple(sorted([told[other] for other in deed[2]])))
            while len(web):
                web.die(choose(web, ()))
            self.keeps(web)

    def test_who_has_most_ties_is_replaced_and_dies(self):
        web = led(HealedWeb('web'), star(12))
        for number in range(13, 90):
            name = busiest(web, ())
            near = web.tied_to(name)
            web.die(name)
            web.come(name_of(number), near[:7])
        self.keeps(web)

    def test_two_hundred_comings_and_then_all_deaths(self):
        for number, most, choose in ((1, 1, busiest), (2, 3, busiest), (3, 12, beside_dead)):
            web = eaten('web', random_web_comings(dice_of(number), 200, most), choose)
            self.assertEqual((len(web.past), len(web)), (400, 0))
            self.keeps(web)

    def test_full_web_of_two_hundred(self):
        # Each place has all others as neighbours: nothing may be put in or struck twice.
        web = led(HealedWeb('web'), full(200))
        for name in came(web)[:5]:
            web.die(name)
        rows = healed(web.past)
        self.assertEqual(rows[-1], web.ties)
        self.assertEqual([len(row) for row in rows[-6:]], [many * (many - 1) // 2 for many in range(200, 194, -1)])


class TestTrees(unittest.TestCase):
    """The trees by which the dead parts hang together, from within."""

    def heights(self, trees, slot):
        """The slots below and with this one; all that is told of them is right."""
        below = trees._below[slot]
        found = [slot]
        for one in below:
            self.assertEqual(trees._above[one], slot)
            found.extend(self.heights(trees, one))
        told = sorted([trees._height[one] for one in below])
        self.assertEqual(trees._height[slot], 1 + max([0, *told]))
        self.assertLessEqual(len(told), 2)
        self.assertLessEqual(([0, 0] + told)[-1] - ([0, 0] + told)[-2], 1)
        return found

    def stands(self, healer, history):
        trees = healer._trees
        tops = [slot for slot in trees._above if trees._above[slot] is None]
        found = sorted([sorted(self.heights(trees, top)) for top in tops])
        told = [[slot for slot in slots(history) if slot[1] in part] for part in dead_parts(history)]
        self.assertEqual(found, sorted([part for part in told if part]))
        links = {pair_of(slot[0], above[0]) for slot, above in trees._above.items() if above and slot[0] != above[0]}
        living = {tie for tie in elder_web(history).ties if set(tie) <= set(history.living)}
        self.assertEqual(healer.held.row, tuple(sorted(links | living)))

    def follows(self, deeds):
        web = HealedWeb('web')
        for deed in deeds:
            led(web, [deed])
            self.stands(web._healer, web.past)
            self.stands(web.copy()._healer, web.past)

    def test_drawn_histories(self):
        for number in range(60):
            self.follows(History('\n'.join(random_lines(dice_of(number), 40))).deeds)

    def test_shapes(self):
        for number, comings in enumerate((star(30), full(9), grid(4, 5), stars_of_stars(4, 5),
                                          random_web_comings(dice_of(1), 30, 5), line(20), ring(12))):
            for choose in (busiest, most_elder, by_chance(dice_of(number))):
                self.follows(eaten('web', comings, choose).past.deeds)

    def test_great_trees_joined(self):
        # The middles of stars of unlike sizes die, then the one who is tied to all of them.
        for sizes in ((1, 30), (30, 1), (2, 9, 30), (30, 9, 2), (1, 1, 20, 3), (5, 5, 5, 5), (12, 0, 12), (3, 40, 3, 40)):
            beside = [[]] * len(sizes) + [[at] for at, size in enumerate(sizes) for _ in range(size)]
            beside.append(list(range(len(sizes))))
            web = led(HealedWeb('web'), drawn(beside))
            for at in [*range(len(sizes)), len(beside) - 1]:
                web.die(name_of(at))
                self.stands(web._healer, web.past)


class TestNothingLaterCounts(Keeps):

    def test_beginnings(self):
        for number in range(40):
            history = History('\n'.join(random_lines(dice_of(number), 30)))
            rows = healed(history)
            for many in range(len(history) + 1):
                self.assertEqual(healed(first_deeds(history, many)), rows[:many])

    def test_alike_up_to_a_deed(self):
        for number in range(20):
            dice = dice_of(number)
            comings = random_web_comings(dice, 24, 3)
            web = eaten('web', comings, by_chance(dice), left=12)
            many = len(web.past)
            others = [web.copy() for _ in range(4)]
            for other in others:
                while len(other):
                    other.die(by_chance(dice)(other, ()))
            rows = [healed(other.past) for other in others]
            for row in rows:
                self.assertEqual(row[:many], healed(web.past))
            self.assertGreater(len({other.past.text for other in others}), 1)

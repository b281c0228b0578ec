"""The elder web of histories, slots, dead parts, rims, figures."""

import unittest

from healedwebs.errors import BadNumber, NoPlace
from healedwebs.histories import (History, dead_parts, elder_ties, elder_web, figures, first_deeds,
                                  is_wood_history, rims, slots)
from healedwebs.webs import Web, far_from, how_far, parts_of, web_of
from tests.kinds import Raises, many_names, no_names
from tests.models import FAR, Told, dice_of, random_lines

STAR = History('come a\ncome b a\ncome c a\ncome d b c\ndie a\ncome e d')


class TestElderWeb(unittest.TestCase, Raises):

    def test_empty(self):
        self.assertEqual(elder_web(History('')), Web('places'))

    def test_the_dead_keep_their_places_and_ties(self):
        self.assertEqual(elder_web(history=STAR).text,
                         'places a b c d e\ntie a b\ntie a c\ntie b d\ntie c d\ntie d e')
        self.assertIs(type(elder_web(STAR)), Web)
        self.assertEqual(elder_web(History('come b\ncome a b\ndie a\ndie b')), Web('places a b\ntie a b'))

    def test_great_elder_web(self):
        names = many_names(120)
        lines = [' '.join(('come', name) + names[:at]) for at, name in enumerate(names)]
        web = elder_web(History('\n'.join(lines)))
        self.assertEqual((web.places, len(web.ties)), (names, 7140))

    def test_elder_ties(self):
        self.assertEqual([elder_ties(STAR, name) for name in 'abcde'], [2, 2, 2, 3, 1])
        self.assertEqual(elder_ties(history=History('come a\ndie a'), name='a'), 0)
        self.assertEqual(elder_ties(History('come a\ncome b a\ndie a\ndie b'), 'a'), 1)

    def test_no_place(self):
        for value in no_names() + ['f', 'come', 'die', ('a', 'b'), ['a']]:
            self.raises(NoPlace, value, elder_ties, STAR, value)
            self.raises(NoPlace, value, elder_ties, History(''), value)


class TestSlots(unittest.TestCase):

    def told(self, text, pairs, parts, edges):
        history = History(text)
        self.assertEqual((slots(history), dead_parts(history), rims(history)), (pairs, parts, edges))
        self.assertEqual((slots(history=history), dead_parts(history=history), rims(history=history)),
                         (pairs, parts, edges))

    def test_nobody_dead(self):
        self.told('', (), (), ())
        self.told('come a\ncome b a', (), (), ())

    def test_nobody_living(self):
        self.told('come a\ncome b a\ncome c\ndie a\ndie b\ndie c', (), (('a', 'b'), ('c',)), ((), ()))

    def test_one_dead(self):
        self.told(STAR.text, (('b', 'a'), ('c', 'a')), (('a',),), (('b', 'c'),))

    def test_dead_places_that_nobody_is_tied_to(self):
        self.told('come a\ncome b\ndie a', (), (('a',),), ((),))
        self.told('come a\ncome b\ncome c b\ndie a\ndie b', (('c', 'b'),), (('a',), ('b',)), ((), ('c',)))

    def test_several_dead_parts(self):
        self.told(STAR.text + '\ndie c\ndie e', (('b', 'a'), ('d', 'c'), ('d', 'e')),
                  (('a', 'c'), ('e',)), (('b', 'd'), ('d',)))

    def test_dead_places_that_only_the_living_hold_together(self):
        self.told('come a\ncome b a\ncome c b\ndie a\ndie c', (('b', 'a'), ('b', 'c')),
                  (('a',), ('c',)), (('b',), ('b',)))

    def test_the_dead_in_a_line(self):
        self.told('come a\ncome b a\ncome c b\ncome d c\ncome e d\ndie d\ndie b\ndie c',
                  (('a', 'b'), ('e', 'd')), (('b', 'c', 'd'),), (('a', 'e'),))

    def test_a_part_with_several_slots_of_one_place(self):
        self.told('come x\ncome y x\ncome a x y\ncome b y\ndie x\ndie y',
                  (('a', 'x'), ('a', 'y'), ('b', 'y')), (('x', 'y'),), (('a', 'b'),))

    def test_rims_stand_in_the_sequence_of_parts(self):
        self.told('come p\ncome q\ncome a q\ncome b p\ndie p\ndie q',
                  (('a', 'q'), ('b', 'p')), (('p',), ('q',)), (('b',), ('a',)))


class TestForAllHistories(unittest.TestCase):

    def test_random_histories(self):
        for number in range(150):
            lines = random_lines(dice_of(number), dice_of(number).randint(0, 40))
            history, told = History('\n'.join(lines)), Told(lines)
            self.compare(history, told)
            self.promised(history)

    def compare(self, history, told):
        ties = tuple(sorted(told.ties))
        self.assertEqual(elder_web(history), web_of(tuple(sorted(told.came)), ties))
        for name in told.came:
            self.assertEqual(elder_ties(history, name), len([tie for tie in ties if name in tie]))
        pairs = [(one, other) for tie in ties for one, other in (tie, tie[::-1])
                 if one in told.living and other in told.dead]
        self.assertEqual(slots(history), tuple(sorted(pairs)))
        far = told.dead_ways()
        parts = sorted({tuple(sorted([name for name in told.dead if far[one, name] < FAR]))
                        for one in told.dead})
        self.assertEqual(dead_parts(history), tuple(parts))
        self.assertEqual(rims(history), tuple(
            [tuple(sorted({one for one, other in pairs if other in part})) for part in parts]))

    def promised(self, history):
        web, pairs, edges = elder_web(history), slots(history), rims(history)
        self.assertLessEqual(len(pairs), len(web.ties))
        for name in history.living:
            held = len([pair for pair in pairs if pair[0] == name])
            self.assertLessEqual(len([edge for edge in edges if name in edge]), held)
        steps = {tie for tie in web.ties if set(tie) <= set(history.living)}
        for edge in edges:
            steps |= {(one, other) for one in edge for other in edge if one < other}
        near = web_of(history.living, tuple(sorted(steps)))
        joined = [tuple([name for name in part if name in history.living]) for part in parts_of(web)]
        self.assertEqual(parts_of(near), tuple(sorted([part for part in joined if part])))

    def test_places_never_come_to_be_farther_apart(self):
        for number in range(25):
            history = History('\n'.join(random_lines(dice_of(number), 30)))
            webs = [elder_web(first_deeds(history, many)) for many in range(len(history) + 1)]
            for ahead, web in zip(webs, webs[1:]):
                for place in ahead.places:
                    for other, far in far_from(ahead, place):
                        self.assertLessEqual(how_far(web, place, other), far)

    def test_equal_calls_return_equal_results(self):
        for number in range(20):
            text = '\n'.join(random_lines(dice_of(number), 25))
            one, other = History(text), History(text)
            deeds = one.deeds
            for call in (elder_web, slots, dead_parts, rims, is_wood_history):
                self.assertEqual([call(one), call(one)], [call(other), call(other)])
            self.assertEqual((one.text, one.deeds), (text, deeds))


class TestWoodHistories(unittest.TestCase):

    def test_woods(self):
        for text in ('', 'come a', 'come a\ncome b a\ncome c b', 'come a\ncome b\ndie a\ndie b'):
            self.assertIs(is_wood_history(history=History(text)), True)

    def test_two_ties_are_one_too_many(self):
        self.assertIs(is_wood_history(STAR), False)
        # Also where the two places were not joined, so that there is no ring.
        self.assertIs(is_wood_history(History('come a\ncome b\ncome c a b')), False)
        self.assertIs(is_wood_history(History('come a\ncome b\ncome c a b\ndie c')), False)

    def test_first_deeds_of_the_star(self):
        self.assertEqual([is_wood_history(first_deeds(STAR, many)) for many in range(7)],
                         [True, True, True, True, False, False, False])


class TestFigures(unittest.TestCase, Raises):

    def test_small_numbers(self):
        self.assertEqual([figures(number) for number in range(10)], [0, 1, 2, 2, 3, 3, 3, 3, 4, 4])
        self.assertEqual(figures(number=5), 3)

    def test_as_python_writes_them(self):
        for number in [*range(1, 3000), *range(999000, 1000001)]:
            self.assertEqual(figures(number), len(bin(number)) - 2)

    def test_borders(self):
        self.assertEqual([figures(0), figures(1000000)], [0, 20])
        self.assertEqual([figures(2 ** 19 - 1), figures(2 ** 19)], [19, 20])

    def test_bad_numbers(self):
        for number in (-1, 1000001, -10 ** 39, 10 ** 39, True, False, None, '', '1', 'a', (), (1,), [1], {},
                       {1: 1}, History(''), Web('places')):
            self.raises(BadNumber, number, figures, number)

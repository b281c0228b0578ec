"""How far places of webs are apart, parts and woods."""

import unittest

from healedwebs.errors import BadPlace, NoPlaces
from healedwebs.webs import (Web, far_from, farthest, how_far, is_wood, parts_of, ties_of, web_of)
from tests.kinds import Raises, many_names, no_names
from tests.models import FAR, all_ways, dice_of, has_ring, random_web

WEB = Web('places a b c d e f\ntie a b\ntie a c\ntie c d\ntie e f')


def line_of_places(many):
    names = many_names(many)
    return web_of(names, tuple(zip(names, names[1:])))


def ring_of_places(many):
    names = many_names(many)
    return web_of(names, tuple(sorted([*zip(names, names[1:]), (names[0], names[-1])])))


class TestWays(unittest.TestCase, Raises):

    def test_ties_of(self):
        self.assertEqual(ties_of(WEB, 'a'), ('b', 'c'))
        self.assertEqual(ties_of(web=WEB, place='d'), ('c',))
        self.assertEqual(ties_of(Web('places a'), 'a'), ())
        self.assertEqual(ties_of(Web('places a b c d e\ntie a c\ntie b c\ntie c d\ntie c e'), 'c'),
                         ('a', 'b', 'd', 'e'))

    def test_how_far_both_ways(self):
        for one, other, far in (('b', 'd', 3), ('a', 'd', 2), ('a', 'b', 1), ('e', 'f', 1)):
            self.assertEqual(how_far(WEB, one, other), far)
            self.assertEqual(how_far(WEB, other, one), far)
            self.assertEqual(how_far(web=WEB, one=one, other=other), far)

    def test_how_far_from_itself(self):
        for place in WEB.places:
            self.assertEqual(how_far(WEB, place, place), 0)

    def test_how_far_between_parts(self):
        self.assertIsNone(how_far(WEB, 'a', 'e'))
        self.assertIsNone(how_far(WEB, 'f', 'd'))

    def test_how_far_takes_the_shorter_way(self):
        self.assertEqual(how_far(ring_of_places(7), 'aa', 'ae'), 3)
        self.assertEqual(how_far(Web('places a b c d\ntie a b\ntie a d\ntie b c\ntie c d'), 'a', 'c'), 2)

    def test_far_from(self):
        self.assertEqual(far_from(WEB, 'c'), (('a', 1), ('b', 2), ('c', 0), ('d', 1)))
        self.assertEqual(far_from(web=WEB, place='f'), (('e', 1), ('f', 0)))
        self.assertEqual(far_from(Web('places p q'), 'q'), (('q', 0),))

    def test_bad_place(self):
        for value in no_names() + ['g', 'ab', 'tie', 'places', ('a', 'b'), ['a']]:
            self.raises(BadPlace, value, ties_of, WEB, value)
            self.raises(BadPlace, value, far_from, WEB, value)
            self.raises(BadPlace, value, how_far, WEB, value, 'a')
            self.raises(BadPlace, value, how_far, WEB, 'a', value)
            self.raises(BadPlace, value, ties_of, Web('places'), value)

    def test_one_ahead_of_other(self):
        self.raises(BadPlace, 'x', how_far, WEB, 'x', 'y')
        self.raises(BadPlace, None, how_far, WEB, None, ['a'])
        self.raises(BadPlace, 'y', how_far, WEB, one='y', other='x')
        self.raises(BadPlace, 'y', how_far, WEB, other='x', one='y')

    def test_parts_of(self):
        self.assertEqual(parts_of(WEB), (('a', 'b', 'c', 'd'), ('e', 'f')))
        self.assertEqual(parts_of(web=Web('places')), ())
        self.assertEqual(parts_of(Web('places a b c')), (('a',), ('b',), ('c',)))
        self.assertEqual(parts_of(Web('places a b c d\ntie a d\ntie b c')), (('a', 'd'), ('b', 'c')))
        self.assertEqual(parts_of(Web('places a b c\ntie a c\ntie b c')), (('a', 'b', 'c'),))

    def test_farthest_without_places(self):
        self.raises(NoPlaces, None, farthest, Web('places'))

    def test_farthest_without_ties(self):
        self.assertEqual(farthest(Web('places a')), (0, 'a', 'a'))
        self.assertEqual(farthest(web=Web('places p q')), (0, 'p', 'p'))

    def test_farthest_of_several_pairs(self):
        self.assertEqual(farthest(WEB), (3, 'b', 'd'))
        self.assertEqual(farthest(Web('places a b c d\ntie a b\ntie c d')), (1, 'a', 'b'))
        self.assertEqual(farthest(Web('places a b c d\ntie a c\ntie b d')), (1, 'a', 'c'))
        self.assertEqual(farthest(Web('places a b c m\ntie a m\ntie b m\ntie c m')), (2, 'a', 'b'))
        self.assertEqual(farthest(ring_of_places(6)), (3, 'aa', 'ad'))
        self.assertEqual(farthest(Web('places a b c d\ntie b c\ntie c d')), (2, 'b', 'd'))

    def test_long_line(self):
        web = line_of_places(200)
        names = web.places
        self.assertEqual(farthest(web), (199, names[0], names[-1]))
        self.assertEqual(how_far(web, names[-1], names[0]), 199)
        self.assertEqual(len(far_from(web, names[7])), 200)

    def test_is_wood(self):
        for text in ('places', 'places a', 'places a b', 'places a b\ntie a b', WEB.text,
                     'places a b c m\ntie a m\ntie b m\ntie c m'):
            self.assertIs(is_wood(Web(text)), True)
        self.assertIs(is_wood(web=line_of_places(200)), True)

    def test_rings_are_no_woods(self):
        for many in (3, 4, 5, 200):
            self.assertIs(is_wood(ring_of_places(many)), False)

    def test_woods_of_several_parts(self):
        lone = 'places a b c d e f g'
        self.assertIs(is_wood(Web(lone + '\ntie a b\ntie c d\ntie d e')), True)
        self.assertIs(is_wood(Web(lone + '\ntie a b\ntie c d\ntie c e\ntie d e')), False)
        self.assertIs(is_wood(Web(lone + '\ntie a b\ntie a c\ntie b c\ntie d e\ntie d f\ntie e f')), False)


class TestWaysAgainstModels(unittest.TestCase):

    def test_random_webs(self):
        for number in range(150):
            places, ties = random_web(dice_of(number))
            self.compare(web_of(places, ties), all_ways(places, ties))

    def compare(self, web, far):
        for one in web.places:
            for other in web.places:
                found = how_far(web, one, other)
                self.assertEqual(FAR if found is None else found, far[one, other])
            self.assertEqual(far_from(web, one), tuple(
                [(name, far[one, name]) for name in web.places if far[one, name] < FAR]))
            self.assertEqual(ties_of(web, one), tuple(
                [name for name in web.places if far[one, name] == 1]))
        self.assertEqual(parts_of(web), tuple(sorted(
            {tuple([name for name in web.places if far[one, name] < FAR]) for one in web.places})))
        self.assertEqual(is_wood(web), not has_ring(web.places, web.ties))
        ways = [(-far[one, other], one, other) for one in web.places for other in web.places
                if one <= other and far[one, other] < FAR]
        if ways:
            best = min(ways)
            self.assertEqual(farthest(web), (-best[0], best[1], best[2]))

    def test_equal_calls_return_equal_results(self):
        for number in range(20):
            one = web_of(*random_web(dice_of(number)))
            other = Web(one.text)
            for call in (parts_of, is_wood):
                self.assertEqual([call(one), call(one)], [call(other), call(one)])
            for place in one.places:
                self.assertEqual([far_from(one, place)] * 2, [far_from(one, place), far_from(other, place)])
            self.assertEqual((one.text, one.places, one.ties), (other.text, other.places, other.ties))

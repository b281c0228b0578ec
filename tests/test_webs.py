"""Webs: their texts, web_of, equality."""

import unittest

from healedwebs.errors import BadPlaces, BadTies, BadWeb
from healedwebs.histories import History
from healedwebs.webs import Web, web_of
from tests.kinds import Raises, many_names, no_names, no_strings, no_tuples
from tests.models import dice_of, random_web


class TestWebText(unittest.TestCase, Raises):

    def bad(self, number, text):
        self.raises(BadWeb, number, Web, text)

    def test_no_place(self):
        web = Web('places')
        self.assertEqual((web.text, web.places, web.ties, len(web)), ('places', (), (), 0))

    def test_one_place(self):
        web = Web('places a')
        self.assertEqual((web.text, web.places, web.ties, len(web)), ('places a', ('a',), (), 1))

    def test_places_and_ties(self):
        text = 'places a bb ccc dddddddd\ntie a bb\ntie a dddddddd\ntie bb ccc'
        web = Web(text)
        self.assertEqual(web.text, text)
        self.assertEqual(web.places, ('a', 'bb', 'ccc', 'dddddddd'))
        self.assertEqual(web.ties, (('a', 'bb'), ('a', 'dddddddd'), ('bb', 'ccc')))
        self.assertEqual(len(web), 4)

    def test_kinds_of_values(self):
        web = Web(text='places a b\ntie a b')
        self.assertEqual([type(web.text), type(web.places), type(web.ties), type(web.ties[0])],
                         [str, tuple, tuple, tuple])

    def test_names_ascend_as_python_sorts(self):
        self.assertEqual(Web('places a aa ab b').places, ('a', 'aa', 'ab', 'b'))
        self.bad(1, 'places a ab aa b')
        self.bad(1, 'places aa a')

    def test_no_string(self):
        for value in no_strings():
            self.bad(0, value)

    def test_empty_text(self):
        self.bad(1, '')
        self.bad(1, '\n')
        self.bad(1, '\nplaces a')

    def test_first_line(self):
        for text in ('place a', 'Places a', 'placesa', 'tie a b', 'a b', ' places a', ' places',
                     'places  a', 'places a ', 'places ', 'places a  b', 'places,a', 'come a'):
            self.bad(1, text)
            self.bad(1, text + '\ntie a b')

    def test_200_places_can_stand_and_201_cannot(self):
        names = many_names(201)
        web = Web(' '.join(('places',) + names[:200]) + '\ntie aa ab')
        self.assertEqual((len(web), web.places), (200, names[:200]))
        self.bad(1, ' '.join(('places',) + names))

    def test_names(self):
        self.assertEqual(Web('places abcdefgh z').places, ('abcdefgh', 'z'))
        for name in ('abcdefghi', 'A', 'aB', 'a1', '1', 'a_', 'a-b', 'a.', '?'):
            self.bad(1, 'places ' + name)
            self.bad(1, 'places a ' + name)

    def test_names_that_do_not_ascend(self):
        self.bad(1, 'places b a')
        self.bad(1, 'places a a')
        self.bad(1, 'places a b b c')
        self.bad(1, 'places a c b d')

    def test_line_feed_at_the_end(self):
        self.bad(2, 'places\n')
        self.bad(2, 'places a b\n')
        self.bad(3, 'places a b\ntie a b\n')

    def test_empty_line(self):
        self.bad(2, 'places a b\n\ntie a b')
        self.bad(3, 'places a b c\ntie a b\n\ntie a c')

    def test_blanks(self):
        for line in ('tie a  b', 'tie  a b', ' tie a b', 'tie a b ', 'tie a b  ', ' ', 'tie a', 'tie'):
            self.bad(2, 'places a b\n' + line)

    def test_tie_lines(self):
        for line in ('tie a b c', 'tie a', 'Tie a b', 'ties a b', 'a b', 'places a b', 'tie a B',
                     'tie ab', 'tie a b1', 'come a b'):
            self.bad(2, 'places a b c\n' + line)

    def test_ties_with_oneself_with_unknown_places_and_not_ascending(self):
        for line in ('tie a a', 'tie b a', 'tie a d', 'tie d e', 'tie aa b', 'tie a places'):
            self.bad(2, 'places a b c\n' + line)
            self.bad(3, 'places a b c\ntie a b\n' + line)

    def test_ties_twice_and_in_wrong_order(self):
        self.bad(3, 'places a b c\ntie a b\ntie a b')
        self.bad(3, 'places a b c\ntie a c\ntie a b')
        self.bad(4, 'places a b c\ntie a b\ntie b c\ntie a c')
        self.bad(4, 'places a b c\ntie a b\ntie b c\ntie a b')

    def test_first_wrong_line_of_several(self):
        self.bad(1, 'places b a\ntie a a\n')
        self.bad(2, 'places a b c\ntie a a\ntie c b\n')
        self.bad(3, 'places a b c\ntie a b\ntie a b\ntie a z')
        self.bad(4, 'places a b c\ntie a b\ntie a c\n\ntie a a')

    def test_all_ties_of_forty_places(self):
        names = many_names(40)
        pairs = [(one, other) for one in names for other in names if one < other]
        text = '\n'.join([' '.join(('places',) + names)] + ['tie ' + ' '.join(pair) for pair in pairs])
        self.assertEqual(Web(text).ties, tuple(pairs))


class TestWebIn(unittest.TestCase):

    def test_places_are_in(self):
        web = Web('places a bb\ntie a bb')
        self.assertTrue('a' in web)
        self.assertTrue('bb' in web)

    def test_nothing_else_is_in(self):
        web = Web('places a bb\ntie a bb')
        for value in no_names() + ['b', 'c', 'tie', 'places', ('a', 'bb'), ['a'], {'a': 'a'}]:
            self.assertFalse(value in web, repr(value))
            self.assertTrue(value not in web, repr(value))
        self.assertFalse('a' in Web('places'))


class TestWebEquality(unittest.TestCase):

    def test_equal_texts(self):
        text = 'places a b\ntie a b'
        self.assertTrue(Web(text) == Web(text))
        self.assertFalse(Web(text) != Web(text))
        self.assertTrue(Web(text) == web_of(('a', 'b'), (('a', 'b'),)))

    def test_unlike_texts(self):
        texts = ['places', 'places a', 'places b', 'places a b', 'places a b\ntie a b']
        for one in texts:
            for other in texts:
                self.assertEqual(Web(one) == Web(other), one == other)
                self.assertEqual(Web(one) != Web(other), one != other)

    def test_equal_to_nothing_else(self):
        for web in (Web('places'), Web('places a b\ntie a b')):
            others = [value for value in no_strings() if not isinstance(value, Web)]
            for value in others + [web.text, web.places, (web.places, web.ties), History('')]:
                self.assertFalse(web == value, repr(value))
                self.assertFalse(value == web, repr(value))
                self.assertTrue(web != value, repr(value))
                self.assertTrue(value != web, repr(value))


class TestWebOf(unittest.TestCase, Raises):

    def test_text(self):
        self.assertEqual(web_of((), ()).text, 'places')
        self.assertEqual(web_of(('a',), ()).text, 'places a')
        web = web_of(places=('a', 'b', 'c'), ties=(('a', 'b'), ('b', 'c')))
        self.assertEqual(web.text, 'places a b c\ntie a b\ntie b c')
        self.assertEqual((web.places, web.ties), (('a', 'b', 'c'), (('a', 'b'), ('b', 'c'))))
        self.assertIs(type(web), Web)

    def test_there_and_back(self):
        for number in range(60):
            places, ties = random_web(dice_of(number))
            web = web_of(places, ties)
            self.assertEqual((web.places, web.ties), (places, ties))
            self.assertEqual(Web(web.text), web)
            self.assertEqual(web_of(web.places, web.ties), web)

    def test_200_places_and_201(self):
        names = many_names(201)
        self.assertEqual(len(web_of(names[:200], ())), 200)
        self.raises(BadPlaces, names, web_of, names, ())

    def test_all_ties_of_200_places(self):
        names = many_names(200)
        pairs = tuple([(one, other) for one in names for other in names if one < other])
        web = web_of(names, pairs)
        self.assertEqual((len(web.ties), Web(web.text) == web), (19900, True))

    def test_bad_places(self):
        for value in no_tuples() + [['a', 'b'], {'a': True}]:
            self.raises(BadPlaces, value, web_of, value, ())
        for name in no_names():
            self.raises(BadPlaces, (name,), web_of, (name,), ())
            self.raises(BadPlaces, ('a', name), web_of, ('a', name), ())
            self.raises(BadPlaces, (name, 'b'), web_of, (name, 'b'), ())
        for value in (('b', 'a'), ('a', 'a'), ('a', 'c', 'b'), ('a', ('b',)), (('a', 'b'),)):
            self.raises(BadPlaces, value, web_of, value, ())

    def test_bad_ties(self):
        places = ('a', 'b', 'c')
        for value in no_tuples() + [[('a', 'b')], {('a', 'b'): True}]:
            self.raises(BadTies, value, web_of, places, value)
        ties = [['a', 'b'], ('a',), ('a', 'b', 'c'), ('b', 'a'), ('a', 'a'), ('a', 'd'), ('d', 'e'),
                ('0', 'a'), (True, 'a'), ('a', True), ('a', ['b']), (['a'], 'b'), ({}, {}), ('a', None),
                'ab', 'a', '', (), (1, 2), (('a', 'b'), ('a', 'c')), {'a': 'b'}, Web('places a b')]
        for tie in ties + no_strings():
            self.raises(BadTies, (tie,), web_of, places, (tie,))
            self.raises(BadTies, (('a', 'b'), tie), web_of, places, (('a', 'b'), tie))
            self.raises(BadTies, (tie, ('b', 'c')), web_of, places, (tie, ('b', 'c')))

    def test_ties_that_do_not_ascend(self):
        places = ('a', 'b', 'c')
        for ties in ((('a', 'b'), ('a', 'b')), (('a', 'c'), ('a', 'b')), (('b', 'c'), ('a', 'b')),
                     (('a', 'b'), ('b', 'c'), ('a', 'c'))):
            self.raises(BadTies, ties, web_of, places, ties)

    def test_ties_without_places(self):
        self.raises(BadTies, (('a', 'b'),), web_of, (), (('a', 'b'),))
        self.raises(BadTies, (('a', 'b'),), web_of, ('a',), (('a', 'b'),))

    def test_places_ahead_of_ties(self):
        self.raises(BadPlaces, ['a'], web_of, ['a'], [('a', 'b')])
        self.raises(BadPlaces, None, web_of, None, None)
        self.raises(BadPlaces, ('b', 'a'), web_of, ('b', 'a'), (('b', 'a'),))
        self.raises(BadPlaces, 1, web_of, ties=2, places=1)

    def test_arguments_are_kept_as_they_were(self):
        for places, ties in ((['b', 'a'], [['b', 'a']]), (('a', 'b'), [['a', 'b']])):
            ahead = repr((places, ties))
            self.assertRaises(ValueError, web_of, places, ties)
            self.assertEqual(repr((places, ties)), ahead)

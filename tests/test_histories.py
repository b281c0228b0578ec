"""Histories: their texts, led_on, first_deeds, equality."""

import unittest

from healedwebs.errors import BadDeed, BadHistory, BadNumber
from healedwebs.histories import History, first_deeds, led_on
from healedwebs.webs import Web
from tests.kinds import Raises, many_names, no_names, no_strings, no_tuples
from tests.models import Told, dice_of, random_lines

STAR = 'come a\ncome b a\ncome c a\ncome d b c\ndie a\ncome e d'


def comings(names):
    return '\n'.join(['come ' + name for name in names])


class TestHistoryText(unittest.TestCase, Raises):

    def bad(self, number, text):
        self.raises(BadHistory, number, History, text)

    def test_empty(self):
        history = History('')
        self.assertEqual((history.text, history.deeds, history.living, history.dead, len(history)),
                         ('', (), (), (), 0))

    def test_comings_and_deaths(self):
        history = History(text=STAR)
        self.assertEqual(history.text, STAR)
        self.assertEqual(history.deeds, (
            ('come', 'a', ()), ('come', 'b', ('a',)), ('come', 'c', ('a',)),
            ('come', 'd', ('b', 'c')), ('die', 'a'), ('come', 'e', ('d',))))
        self.assertEqual((history.living, history.dead), (('b', 'c', 'd', 'e'), ('a',)))
        self.assertEqual(len(history), 6)

    def test_living_and_dead_behind_each_deed(self):
        history = History('come c\ncome a\ncome b\ndie c\ndie a\ndie b\ncome d')
        living = [(), ('c',), ('a', 'c'), ('a', 'b', 'c'), ('a', 'b'), ('b',), (), ('d',)]
        dead = [(), (), (), (), ('c',), ('a', 'c'), ('a', 'b', 'c'), ('a', 'b', 'c')]
        for many in range(8):
            ahead = first_deeds(history, many)
            self.assertEqual((ahead.living, ahead.dead), (living[many], dead[many]))

    def test_kinds_of_values(self):
        history = History('come a\ncome b a\ndie a')
        for value in (history.deeds, history.living, history.dead, history.deeds[1], history.deeds[1][2],
                      history.deeds[2]):
            self.assertIs(type(value), tuple)

    def test_places_may_be_called_as_the_words(self):
        history = History('come come\ncome die come\ndie die\ndie come')
        self.assertEqual(history.deeds, (
            ('come', 'come', ()), ('come', 'die', ('come',)), ('die', 'die'), ('die', 'come')))
        self.assertEqual(history.dead, ('come', 'die'))

    def test_no_string(self):
        for value in no_strings():
            self.bad(0, value)

    def test_names(self):
        self.assertEqual(History('come abcdefgh').living, ('abcdefgh',))
        for name in ('abcdefghi', 'A', 'aB', 'a1', '1', 'a_', '?', ''):
            self.bad(1, 'come ' + name)
            self.bad(2, 'come z\ncome ' + name + ' z')
            self.bad(2, 'come z\ndie ' + name)

    def test_empty_lines(self):
        self.bad(1, '\n')
        self.bad(1, '\ncome a')
        self.bad(2, 'come a\n\ncome b')
        self.bad(2, 'come a\n')
        self.bad(3, 'come a\ndie a\n')

    def test_lines_without_their_form(self):
        for line in ('come', 'die', 'come ', 'die ', ' come b', ' die a', 'come  b', 'die  a', 'come b ',
                     'die a ', 'come b  a', 'come b a ', 'die a b', 'Come b', 'DIE a', 'comes b', 'a', ' ',
                     'tie a b', 'places a', 'come,b'):
            self.bad(2, 'come a\n' + line)
            self.bad(2, 'come a\n' + line + '\ncome c')

    def test_names_that_came_already(self):
        self.bad(2, 'come a\ncome a')
        self.bad(3, 'come a\ncome b\ncome a b')
        self.bad(3, 'come a\ndie a\ncome a')

    def test_ties(self):
        self.assertEqual(History('come a\ncome b\ncome c a b').deeds[2], ('come', 'c', ('a', 'b')))
        self.bad(1, 'come a b')
        self.bad(1, 'come a a')
        self.bad(3, 'come a\ncome b\ncome c c')
        self.bad(3, 'come a\ncome b\ncome c a c')
        self.bad(3, 'come a\ncome b\ncome c z')
        self.bad(3, 'come a\ncome b\ncome c a z')
        self.bad(3, 'come a\ncome b\ncome c a a')
        self.bad(3, 'come a\ncome b\ncome c b a')
        self.bad(4, 'come a\ncome b\ndie a\ncome c a')
        self.bad(4, 'come a\ncome b\ndie a\ncome c a b')

    def test_deaths(self):
        self.bad(1, 'die a')
        self.bad(2, 'come a\ndie b')
        self.bad(3, 'come a\ndie a\ndie a')

    def test_first_wrong_line_of_several(self):
        self.bad(2, 'come a\ncome a\ndie z\n')
        self.bad(3, 'come a\ncome b a\ncome c b a\ncome c b a')

    def test_200th_and_201st_coming(self):
        names = many_names(201)
        self.assertEqual(History(comings(names[:200])).living, names[:200])
        self.bad(201, comings(names))
        # The dead count, too.
        self.bad(202, comings(names[:200]) + '\ndie aa\ncome zz')
        deaths = comings(names[:199]) + '\ndie aa\ndie ab\ncome zz'
        self.assertEqual(len(History(deaths).living), 198)
        self.bad(203, deaths + '\ncome zx')

    def test_400th_and_401st_deed(self):
        names = many_names(200)
        lines = comings(names).split('\n') + ['die ' + name for name in names]
        history = History('\n'.join(lines))
        self.assertEqual((len(history), history.living, history.dead), (400, (), names))
        for line in ('die aa', 'come zz', '', 'x'):
            self.bad(401, '\n'.join(lines + [line]))
            self.bad(401, '\n'.join(lines + [line, line]))

    def test_random_histories(self):
        for number in range(60):
            lines = random_lines(dice_of(number), 30)
            history, told = History('\n'.join(lines)), Told(lines)
            self.assertEqual(history.living, tuple(sorted(told.living)))
            self.assertEqual(history.dead, tuple(sorted(told.dead)))
            self.assertEqual(len(history), len(lines))


class TestHistoryEquality(unittest.TestCase):

    def test_texts(self):
        texts = ['', 'come a', 'come b', 'come a\ndie a', 'come a\ncome b', 'come b\ncome a', STAR]
        for one in texts:
            for other in texts:
                self.assertEqual(History(one) == History(other), one == other)
                self.assertEqual(History(one) != History(other), one != other)

    def test_equal_to_nothing_else(self):
        for history in (History(''), History(STAR)):
            others = [value for value in no_strings() if not isinstance(value, History)]
            for value in others + ['', history.text, history.deeds, Web('places')]:
                self.assertFalse(history == value, repr(value))
                self.assertFalse(value == history, repr(value))
                self.assertTrue(history != value, repr(value))
                self.assertTrue(value != history, repr(value))


class TestLedOn(unittest.TestCase, Raises):

    def test_comings_and_deaths(self):
        history = History('')
        for deed, text in ((('come', 'a', ()), 'come a'), (('come', 'b', ('a',)), 'come b a'),
                           (('come', 'c', ('a', 'b')), 'come c a b'), (('die', 'a'), 'die a')):
            ahead = history.text
            later = led_on(history=history, deed=deed)
            self.assertEqual(history.text, ahead)
            self.assertEqual(later.text, ahead + ('\n' if ahead else '') + text)
            self.assertEqual(later, History(later.text))
            self.assertEqual(later.deeds, history.deeds + (deed,))
            history = later
        self.assertEqual((history.living, history.dead), (('b', 'c'), ('a',)))

    def bad(self, history, deed):
        self.raises(BadDeed, deed, led_on, history, deed)

    def test_values_that_are_no_deed(self):
        history = History('come a\ncome b\ncome c\ndie c')
        for value in no_strings() + ['', 'come d', 'die a', ['come', 'd', ()], ['die', 'a']]:
            self.bad(history, value)
            self.bad(History(''), value)

    def test_tuples_that_are_no_deed(self):
        history = History('come a\ncome b\ncome c\ndie c')
        for value in (('come',), ('die',), ('come', 'd'), ('die', 'a', ()), ('die', 'a', 'b'),
                      ('come', 'd', (), ()), ('come', 'd', 'a'), ('come', 'd', 'ab'), ('come', 'd', 'a', 'b'),
                      ('Come', 'd', ()), ('Die', 'a'), ('live', 'd', ()), ('live', 'a'), (True, 'a'),
                      (['come'], 'd', ()), ({}, 'a'), (None, None), ('come', ('d',), ()), ('die', ('a',)),
                      (('come', 'd', ()),), (Web('places'), 'a'), ('a', 'die')):
            self.bad(history, value)

    def test_names(self):
        history = History('come a\ncome b\ncome c\ndie c')
        for value in no_names() + ['a', 'c']:
            self.bad(history, ('come', value, ()))
        for value in no_names() + ['c', 'd']:
            self.bad(history, ('die', value))

    def test_ties(self):
        history = History('come a\ncome b\ncome c\ndie c')
        self.assertEqual(led_on(history, ('come', 'd', ('a', 'b'))).deeds[-1], ('come', 'd', ('a', 'b')))
        for ties in no_tuples() + [['a'], ['a', 'b'], {'a': 'b'}, ('b', 'a'), ('a', 'a'), ('c',), ('a', 'c'),
                                   ('d',), ('a', 'd'), ('z',), (True,), ('a', True), (['a'],), (('a',),),
                                   ('a', None), (1, 2), ({},), ('ab',)]:
            self.bad(history, ('come', 'd', ties))

    def test_200th_and_201st_coming(self):
        history = History(comings(many_names(199)))
        full = led_on(history, ('come', 'zz', ()))
        self.assertEqual(len(full.living), 200)
        self.bad(full, ('come', 'zy', ()))
        self.bad(led_on(full, ('die', 'zz')), ('come', 'zy', ()))

    def test_400th_and_401st_deed(self):
        names = many_names(200)
        lines = comings(names).split('\n') + ['die ' + name for name in names[:199]]
        history = led_on(History('\n'.join(lines)), ('die', names[199]))
        self.assertEqual((len(history), history.deeds[-1]), (400, ('die', names[199])))
        for deed in (('come', 'zz', ()), ('die', 'aa')):
            self.bad(history, deed)

    def test_401st_deed_with_one_living(self):
        names = many_names(200)
        lines = comings(names).split('\n') + ['die ' + name for name in names[1:]]
        history = History('\n'.join(lines))
        self.assertEqual((len(history), history.living), (399, ('aa',)))
        self.assertEqual(len(led_on(history, ('die', 'aa'))), 400)

    def test_nothing_is_changed(self):
        history, deed = History('come a'), ['come', 'b', ['a']]
        self.assertRaises(BadDeed, led_on, history, deed)
        self.assertEqual((history, history.deeds, deed),
                         (History('come a'), (('come', 'a', ()),), ['come', 'b', ['a']]))

    def test_great_histories_go_on(self):
        names = ['abcdef' + name for name in many_names(60)]
        history = History('')
        for many, name in enumerate(names):
            history = led_on(history, ('come', name, tuple(names[:many])))
        self.assertEqual(History(history.text), history)
        self.assertEqual(history.deeds[-1], ('come', names[-1], tuple(names[:-1])))


class TestFirstDeeds(unittest.TestCase, Raises):

    def test_all_borders(self):
        history = History(STAR)
        lines = STAR.split('\n')
        for many in range(7):
            self.assertEqual(first_deeds(history, many).text, '\n'.join(lines[:many]))
            self.assertEqual(first_deeds(history=history, many=many).deeds, history.deeds[:many])
        self.assertEqual(first_deeds(history, 6), history)
        self.assertEqual(first_deeds(History(''), 0), History(''))

    def test_bad_numbers(self):
        history = History(STAR)
        for many in (-1, 7, 400, 10 ** 39, -10 ** 39, True, False, None, '', '1', (), (1,), [1], {},
                     History(''), Web('places')):
            self.raises(BadNumber, many, first_deeds, history, many)
        for many in (1, -1, True, False):
            self.raises(BadNumber, many, first_deeds, History(''), many)

    def test_led_on_from_the_first_ones(self):
        for number in range(20):
            history = History('\n'.join(random_lines(dice_of(number), 25)))
            grown = History('')
            for many, deed in enumerate(history.deeds):
                first = first_deeds(history, many)
                self.assertEqual(grown, first)
                self.assertEqual((grown.deeds, grown.living, grown.dead), (first.deeds, first.living, first.dead))
                grown = led_on(grown, deed)
            self.assertEqual(grown, history)

"""measures: the greatest excess, share, distance and change of rows."""

import unittest

from healedwebs.errors import BadRows
from healedwebs.healer import healed
from healedwebs.histories import History
from healedwebs.judged import measures
from tests.judges import plainly_measured
from tests.kinds import Raises, no_tuples
from tests.models import dice_of, random_lines
from tests.test_judged import drawn_rows

STAR = History('come a\ncome b a\ncome c a\ncome d a\ndie a')
AHEAD = ((), (('a', 'b'),), (('a', 'b'), ('a', 'c')), (('a', 'b'), ('a', 'c'), ('a', 'd')))


class TestMeasures(unittest.TestCase, Raises):

    def told(self, text, rows, found):
        history = History(text)
        self.assertEqual(measures(history, rows), found)
        self.assertEqual(measures(rows=rows, history=history), found)
        self.assertEqual(plainly_measured(history.deeds, rows), found)
        self.assertEqual([type(part) for part in found], [int, tuple, tuple, int])

    def test_no_deeds(self):
        self.told('', (), (0, (0, 1), (0, 1), 0))

    def test_nothing_tied(self):
        self.told('come a', ((),), (0, (0, 1), (0, 1), 0))
        self.told('come a\ncome b', ((), ()), (0, (0, 1), (0, 1), 0))
        self.told('come a\ncome b a', ((), ()), (0, (0, 1), (0, 1), 0))

    def test_nobody_dies(self):
        self.told('come a\ncome b a', ((), (('a', 'b'),)), (0, (1, 1), (1, 1), 0))
        self.told('come a\ncome b a\ncome c', ((), (('a', 'b'),), (('a', 'c'), ('b', 'c'))), (2, (1, 1), (2, 1), 0))

    def test_comings_change_nothing_that_counts(self):
        self.told('come a\ncome b a\ncome c b', ((), (('a', 'b'),), ()), (0, (1, 1), (1, 1), 0))

    def test_star(self):
        self.told(STAR.text, AHEAD + ((('b', 'c'), ('c', 'd')),), (1, (2, 1), (1, 1), 2))
        self.told(STAR.text, AHEAD + ((),), (0, (1, 1), (1, 1), 0))
        self.told(STAR.text, AHEAD + ((('b', 'c'),),), (0, (1, 1), (1, 1), 1))
        self.told(STAR.text, AHEAD + ((('b', 'c'), ('b', 'd'), ('c', 'd')),), (1, (2, 1), (1, 1), 3))

    def test_far_alone_among_those_that_are_joined_in_both_webs(self):
        text = '\n'.join(['come m'] + ['come ' + name + ' m' for name in 'abcdef'] + ['die m'])
        ahead = tuple([tuple([(name, 'm') for name in 'abcdef'[:many]]) for many in range(7)])
        line = tuple(zip('abcde', 'bcdef'))
        self.told(text, ahead + (line,), (1, (2, 1), (5, 2), 5))
        self.told(text, ahead + (line[:3],), (1, (2, 1), (3, 2), 3))
        self.told(text, ahead + (line[:2] + line[3:],), (1, (2, 1), (1, 1), 4))

    def test_far_apart_in_both_webs(self):
        # a and e are four apart in the elder web, f and e as far, through the dead.
        text = 'come a\ncome b a\ncome c b\ncome d c\ncome e d\ndie c\ndie b'
        rows = ((), (('a', 'b'),), (('a', 'b'), ('b', 'c')), (('a', 'b'), ('b', 'c'), ('c', 'd')),
                (('a', 'b'), ('b', 'c'), ('c', 'd'), ('d', 'e')), (('a', 'b'), ('b', 'd'), ('d', 'e')),
                (('a', 'd'), ('d', 'e')))
        self.told(text, rows, (0, (1, 1), (1, 1), 1))
        self.told(text, rows[:-1] + ((('a', 'd'), ('a', 'e')),), (1, (2, 1), (2, 1), 3))

    def test_joined_in_the_rows_alone(self):
        self.told('come a\ncome b\ncome c', ((), (('a', 'b'),), (('a', 'b'), ('b', 'c'))), (2, (0, 1), (0, 1), 0))

    def test_places_without_elder_ties(self):
        # The share is of those alone that have some; the excess is of all.
        self.told('come a\ncome b\ncome c\ncome d c', ((), (('a', 'b'),), (('a', 'b'), ('a', 'c'), ('b', 'c')),
                  (('a', 'b'), ('a', 'c'), ('a', 'd'), ('b', 'c'))), (3, (2, 1), (2, 1), 0))

    def test_shares_in_lowest_terms(self):
        # m has four elder ties and six ties: 6/4.
        names = 'abcdefg'
        text = '\n'.join(['come ' + name for name in 'abcd'] + ['come m a b c d', 'come e', 'come f'])
        rows = ((),) * 6 + (tuple([(name, 'm') for name in 'abcdef']),)
        self.assertEqual(measures(History(text), rows), (2, (3, 2), (1, 1), 0))
        self.told(text, rows, (2, (3, 2), (1, 1), 0))
        self.assertEqual(len(names), 7)

    def test_greatest_of_many_deeds(self):
        # What was worst once is told, though it is better later, and its place dead.
        text = 'come m\ncome a m\ncome b m\ncome c m\ncome d m\ndie m\ndie a\ndie b'
        ahead = tuple([tuple([(name, 'm') for name in 'abcd'[:many]]) for many in range(5)])
        rows = ahead + ((('a', 'b'), ('a', 'c'), ('a', 'd')), (('b', 'c'), ('c', 'd')), (('c', 'd'),))
        self.told(text, rows, (2, (3, 1), (1, 1), 3))

    def test_ties_put_in_and_struck_at_one_death(self):
        # Those of the dead place do not count: two struck, three put in.
        text = 'come a\ncome b a\ncome c b\ncome d c\ncome e\ncome f e\ndie f'
        rows = ((), (), (), (('a', 'b'), ('b', 'c')), (('a', 'b'), ('b', 'c')),
                (('a', 'b'), ('a', 'f'), ('b', 'c'), ('c', 'd'), ('e', 'f')),
                (('a', 'c'), ('b', 'd'), ('c', 'd'), ('c', 'e')))
        self.told(text, rows, (1, (2, 1), (3, 1), 5))

    def test_bad_rows(self):
        for value in no_tuples() + [AHEAD, AHEAD + ((('a', 'b'),),), AHEAD + ((('c', 'b'),),), list(AHEAD) + [()],
                                    AHEAD + ([],), AHEAD + ((('b', 'c'), ('b', 'c')),), (True,) * 5]:
            self.raises(BadRows, value, measures, STAR, value)
            self.raises(BadRows, value, measures, history=STAR, rows=value)
        self.raises(BadRows, ((),), measures, History(''), ((),))

    def test_random_rows(self):
        for number in range(150):
            dice = dice_of(number)
            history = History('\n'.join(random_lines(dice, 14)))
            rows = drawn_rows(dice, history)
            self.assertEqual(measures(history, rows), plainly_measured(history.deeds, rows), (history.text, rows))

    def test_healed_rows(self):
        for number in range(60):
            history = History('\n'.join(random_lines(dice_of(number), 25)))
            rows = healed(history)
            self.assertEqual(measures(history, rows), plainly_measured(history.deeds, rows), history.text)

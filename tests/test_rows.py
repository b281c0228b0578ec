"""is_rows: what is, and what is not, rows of ties for a history."""

import unittest

from healedwebs.histories import History
from healedwebs.judged import is_rows
from healedwebs.live import HealedWeb
from healedwebs.webs import Web
from tests.kinds import no_names, no_tuples

EMPTY = History('')
PAIR = History('come a\ncome b a')
STAR = History('come m\ncome a m\ncome b m\ncome c m\ndie m\ncome d c\ndie a')
ROWS = ((), (('a', 'm'),), (('a', 'm'), ('b', 'm')), (('a', 'm'), ('b', 'm'), ('c', 'm')),
        (('a', 'b'), ('b', 'c')), (('a', 'b'), ('b', 'c'), ('c', 'd')), (('b', 'c'), ('c', 'd')))


class TestIsRows(unittest.TestCase):

    def told(self, history, value, right):
        self.assertIs(is_rows(history, value), right, repr(value))

    def behind(self, row, right, number=4):
        """The rows of the star with another one at this place."""
        self.told(STAR, ROWS[:number] + (row,) + ROWS[number + 1:], right)

    def test_right_ones(self):
        self.told(STAR, ROWS, True)
        self.told(STAR, ((),) * 7, True)
        self.told(PAIR, ((), (('a', 'b'),)), True)
        self.told(PAIR, ((), ()), True)
        self.assertIs(is_rows(history=PAIR, value=((), ())), True)
        self.assertIs(is_rows(value=((),), history=PAIR), False)

    def test_ties_need_not_be_those_of_any_healer(self):
        self.told(History('come a\ncome b\ncome c'), ((), (('a', 'b'),), (('a', 'c'), ('b', 'c'))), True)
        self.told(STAR, ((), (), (('a', 'b'),), (('a', 'b'), ('a', 'c'), ('a', 'm'), ('b', 'c')), (), (),
                         (('b', 'd'),)), True)

    def test_empty_history(self):
        self.told(EMPTY, (), True)
        for value in no_tuples() + [((),), ((), ()), [()], (None,), ('',)]:
            self.told(EMPTY, value, False)

    def test_too_few_and_too_many_rows(self):
        self.told(STAR, ROWS[:-1], False)
        self.told(STAR, ROWS[1:], False)
        self.told(STAR, ROWS + ((),), False)
        self.told(STAR, ((),) + ROWS, False)
        self.told(STAR, (), False)
        self.told(PAIR, ((),), False)
        self.told(PAIR, ((), (), ()), False)

    def test_no_tuple_of_rows(self):
        for value in no_tuples() + [list(ROWS), dict(enumerate(ROWS)), STAR, STAR.deeds]:
            self.told(STAR, value, False)
            self.told(PAIR, value, False)

    def test_no_tuple_as_a_row(self):
        for value in no_tuples() + [[('a', 'b')], {('a', 'b'): True}, 'ab', [], {}]:
            self.behind(value, False)
            self.behind(value, False, 0)
            self.behind(value, False, 6)

    def test_no_pair(self):
        pairs = [value for value in no_tuples()] + [
            (), ('a',), ('b', 'c', 'd'), ('a', 'b', 'c'), (('a', 'b'),), ['a', 'b'], 'ab', {'a': 'b'}, ('a', 'b', ())]
        for value in pairs:
            self.behind((value,), False)
            self.behind((('a', 'b'), value), False)
            self.behind((value, ('b', 'c')), False)

    def test_no_names(self):
        for value in no_names():
            for tie in ((value, 'b'), ('a', value), (value, value)):
                self.behind((tie,), False)
                self.behind((('a', 'b'), tie), False)

    def test_names_of_objects(self):
        for value in (Web('places a'), STAR, HealedWeb('web'), ('a',), ['a'], {'a': 'a'}):
            self.behind(((value, 'b'),), False)
            self.behind((('a', value),), False)

    def test_pairs_turned_about(self):
        self.behind((('b', 'a'),), False)
        self.behind((('a', 'b'), ('c', 'b')), False)

    def test_one_name_twice(self):
        self.behind((('a', 'a'),), False)
        self.behind((('a', 'b'), ('b', 'b')), False)

    def test_a_pair_twice(self):
        self.behind((('a', 'b'), ('a', 'b')), False)
        self.behind((('a', 'b'), ('b', 'c'), ('b', 'c')), False)

    def test_pairs_that_do_not_ascend(self):
        self.behind((('b', 'c'), ('a', 'b')), False)
        self.behind((('a', 'c'), ('a', 'b')), False)
        self.behind((('a', 'b'), ('b', 'c'), ('a', 'c')), False)
        self.behind((('a', 'b'), ('a', 'c'), ('b', 'c')), True)

    def test_the_dead(self):
        self.behind((('a', 'm'),), False)
        self.behind((('a', 'b'), ('c', 'm')), False)
        self.behind((('b', 'm'),), False, 5)
        self.behind((('a', 'b'),), False, 6)
        self.behind((('b', 'c'),), True, 6)

    def test_those_that_have_not_come(self):
        self.behind((('c', 'd'),), False)
        self.behind((('c', 'd'),), True, 5)
        self.behind((('a', 'b'),), False, 1)
        self.behind((('a', 'm'),), False, 0)
        self.behind((('a', 'm'),), True, 1)
        self.behind((('a', 'z'),), False)

    def test_true_and_numbers(self):
        for value in (True, False, 0, 1, -1, None):
            self.told(PAIR, value, False)
            self.told(PAIR, (value, value), False)
            self.told(PAIR, ((), value), False)
            self.told(PAIR, ((), (value,)), False)
            self.told(PAIR, ((), ((value, 'b'),)), False)
            self.told(PAIR, ((), (('a', value),)), False)
            self.told(PAIR, ((), ((value, value),)), False)
            self.told(PAIR, ((), ((1, 2),)), False)

    def test_nested_values(self):
        value = ()
        for _ in range(58):
            value = (value,)
        self.told(PAIR, value, False)
        self.told(PAIR, ((), value), False)
        self.told(PAIR, ((), (value,)), False)

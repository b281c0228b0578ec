"""mended_by and played_by: each of the six rules, as section 10 tells it, beside rules that the tests play."""

import unittest

from healedwebs.errors import BadPlace, BadRule
from healedwebs.histories import History, elder_web, first_deeds
from healedwebs.judged import is_rows, judged
from healedwebs.rules import mended_by, played_by
from healedwebs.webs import Web, how_far, web_of
from tests.drawn import drawn_histories, great_histories, shaped_histories
from tests.kinds import Raises, no_names, no_strings
from tests.models import dice_of, random_web
from tests.plays import RULES, Play, pairs_by, rows_of, ways_from

KEEPERS = ('star', 'least', 'all')
JOINERS = ('line', 'ring', 'star', 'least', 'all')

NO_RULES = no_strings() + ['', 'None', 'LINE', 'lines', 'lin', ' line', 'line ', 'rings', 'web', 'wood', 'more', 'far',
                           'nones', 'a', ('line',), ['line'], {'line': 'line'}, 'line\n', ('none', 'line')]


def spokes(many, extra=()):
    """A middle m, tied to the first letters, and perhaps further ties."""
    names = tuple('abcdefghijkl'[:many])
    ties = sorted([(name, 'm') for name in names] + list(extra))
    return web_of(tuple(sorted({'m', *names, *[name for tie in extra for name in tie]})), tuple(ties))


class TestMendedBy(unittest.TestCase, Raises):

    def ties(self, web, **told):
        """Which ties each rule leaves when m dies, told as words of two letters."""
        self.assertEqual(sorted(told), sorted(RULES))
        for rule, words in told.items():
            found = mended_by(rule, web, 'm')
            self.assertIs(type(found), Web)
            self.assertEqual(found.places, tuple([name for name in web.places if name != 'm']))
            self.assertEqual(found.ties, tuple([tuple(word) for word in words.split()]), rule)

    def test_no_neighbour(self):
        self.ties(spokes(0), none='', line='', ring='', star='', least='', all='')
        self.ties(Web('places a b m\ntie a b'), none='ab', line='ab', ring='ab', star='ab', least='ab', all='ab')
        for rule in RULES:
            self.assertEqual(mended_by(rule, Web('places m'), 'm'), Web('places'))

    def test_one_neighbour(self):
        self.ties(spokes(1), none='', line='', ring='', star='', least='', all='')

    def test_two_neighbours(self):
        self.ties(spokes(2), none='', line='ab', ring='ab', star='ab', least='ab', all='ab')

    def test_three_neighbours(self):
        self.ties(spokes(3), none='', line='ab bc', ring='ab ac bc', star='ab ac', least='ab ac', all='ab ac bc')

    def test_four_neighbours(self):
        self.ties(spokes(4), none='', line='ab bc cd', ring='ab ad bc cd', star='ab ac ad', least='ab ac ad',
                  all='ab ac ad bc bd cd')

    def test_five_neighbours(self):
        self.ties(spokes(5), none='', line='ab bc cd de', ring='ab ae bc cd de', star='ab ac ad ae',
                  least='ab ac ad ae', all='ab ac ad ae bc bd be cd ce de')

    def test_neighbours_on_both_sides_of_the_dead(self):
        web = Web('places a l m n z\ntie a m\ntie l m\ntie m n\ntie m z')
        self.ties(web, none='', line='al ln nz', ring='al az ln nz', star='al an az', least='al an az',
                  all='al an az ln lz nz')

    def test_neighbours_that_are_tied_already(self):
        self.ties(spokes(3, [('a', 'b')]), none='ab', line='ab bc', ring='ab ac bc', star='ab ac',
                  least='ab ac bc', all='ab ac bc')
        self.ties(spokes(3, [('a', 'c')]), none='ac', line='ab ac bc', ring='ab ac bc', star='ab ac',
                  least='ab ac bc', all='ab ac bc')
        self.ties(spokes(2, [('a', 'b')]), none='ab', line='ab', ring='ab', star='ab', least='ab', all='ab')
        self.ties(spokes(4, [('a', 'b'), ('a', 'd'), ('b', 'd')]), none='ab ad bd', line='ab ad bc bd cd',
                  ring='ab ad bc bd cd', star='ab ac ad bd', least='ab ac ad bc bd cd', all='ab ac ad bc bd cd')

    def test_all_are_tied_already(self):
        web = spokes(4, [(one, other) for one in 'abcd' for other in 'abcd' if one < other])
        whole = 'ab ac ad bc bd cd'
        self.ties(web, none=whole, line=whole, ring=whole, star=whole, least=whole, all=whole)

    def test_fewest_ties(self):
        # a and c have three ties each, b and d two: the first of these is taken.
        web = spokes(4, [('a', 'x'), ('a', 'y'), ('b', 'x'), ('c', 'x'), ('c', 'y'), ('d', 'y')])
        self.assertEqual(mended_by('least', web, 'm').ties, tuple(
            [tuple(word) for word in 'ab ax ay bc bd bx cx cy dy'.split()]))
        web = spokes(3, [('a', 'x'), ('b', 'x')])
        self.ties(web, none='ax bx', line='ab ax bc bx', ring='ab ac ax bc bx', star='ab ac ax bx', least='ac ax bc bx',
                  all='ab ac ax bc bx')

    def test_ties_with_one_another_count_too(self):
        # Ahead of the death a and b have two ties, c and d three: a is the first of the fewest.
        web = spokes(4, [('a', 'c'), ('b', 'd'), ('c', 'd')])
        self.assertEqual(mended_by('least', web, 'm').ties, tuple(
            [tuple(word) for word in 'ab ac ad bd cd'.split()]))

    def test_the_last_one_has_the_fewest(self):
        web = spokes(3, [('a', 'x'), ('b', 'y')])
        self.assertEqual(mended_by('least', web, 'm').ties, (('a', 'c'), ('a', 'x'), ('b', 'c'), ('b', 'y')))

    def test_other_parts_stay(self):
        web = Web('places a b m p q r\ntie a m\ntie b m\ntie p q\ntie q r')
        for rule in RULES:
            self.assertEqual(mended_by(rule, web, 'm').ties[-2:], (('p', 'q'), ('q', 'r')))
            self.assertEqual(mended_by(rule, web, 'q').ties[:2], (('a', 'm'), ('b', 'm')))

    def test_arguments_by_name_and_equal_calls(self):
        text = spokes(4).text
        for rule in RULES:
            web = Web(text)
            found = mended_by(name='m', rule=rule, web=web)
            self.assertEqual([found, found], [mended_by(rule, Web(text), 'm'), mended_by(rule, web, 'm')])
            self.assertEqual((web.text, web.places, web.ties), (text, Web(text).places, Web(text).ties))

    def test_bad_rule(self):
        web = spokes(3)
        for value in NO_RULES:
            self.raises(BadRule, value, mended_by, value, web, 'm')
            self.raises(BadRule, value, mended_by, rule=value, web=web, name='zz')
            self.raises(BadRule, value, mended_by, value, web, ['m'])

    def test_bad_place(self):
        web = spokes(3)
        for value in no_names() + ['x', 'd', 'mm', ('m',), ['m'], {'m': 'm'}, 'none']:
            for rule in RULES:
                self.raises(BadPlace, value, mended_by, rule, web, value)
                self.raises(BadPlace, value, mended_by, name=value, rule=rule, web=Web('places'))

    def test_drawn_webs(self):
        for number in range(400):
            places, ties = random_web(dice_of(number))
            web = web_of(places, ties)
            for name in places:
                for rule in RULES:
                    left = {tie for tie in ties if name not in tie}
                    near = sorted([other for tie in ties if name in tie for other in tie if other != name])
                    many = {one: len([tie for tie in ties if one in tie]) for one in near}
                    left |= {tuple(sorted(pair)) for pair in pairs_by(rule, near, many)}
                    self.assertEqual(mended_by(rule, web, name), web_of(
                        tuple([place for place in places if place != name]), tuple(sorted(left))))


class TestPlayedBy(unittest.TestCase, Raises):

    def test_no_deeds(self):
        for rule in RULES:
            self.assertEqual(played_by(rule, History('')), ())
            self.assertEqual(played_by(history=History('come a'), rule=rule), ((),))

    def test_each_rule(self):
        history = History('come m\ncome c m\ncome a m\ncome d m\ncome b m\ndie m\ncome e c\ndie a')
        told = {'none': ['', 'ce', 'ce'], 'line': ['ab bc cd', 'ab bc cd ce', 'bc cd ce'],
                'ring': ['ab ad bc cd', 'ab ad bc cd ce', 'bc bd cd ce'],
                'star': ['ab ac ad', 'ab ac ad ce', 'bc bd ce'], 'least': ['ab ac ad', 'ab ac ad ce', 'bc bd ce'],
                'all': ['ab ac ad bc bd cd', 'ab ac ad bc bd cd ce', 'bc bd cd ce']}
        ahead = ('', 'cm', 'am cm', 'am cm dm', 'am bm cm dm')
        for rule in RULES:
            rows = [tuple([tuple(word) for word in row.split()]) for row in [*ahead, *told[rule]]]
            self.assertEqual(played_by(rule, history), tuple(rows))

    def test_kinds_of_values(self):
        for history in shaped_histories(1):
            for rule in RULES:
                rows = played_by(rule, history)
                self.assertTrue(is_rows(history, rows))
                self.assertIs(type(rows), tuple)
                for row in rows:
                    self.assertIs(type(row), tuple)
                    self.assertEqual({type(tie) for tie in row} - {tuple}, set())

    def test_bad_rule(self):
        for history in (History(''), History('come a\ndie a')):
            for value in NO_RULES:
                self.raises(BadRule, value, played_by, value, history)
                self.raises(BadRule, value, played_by, history=history, rule=value)

    def beside_model(self, histories):
        for history in histories:
            text, deeds = history.text, history.deeds
            for rule in RULES:
                rows = played_by(rule, history)
                self.assertEqual(rows, rows_of(rule, history), (rule, text))
                self.assertEqual(rows, played_by(rule, History(text)))
            self.assertEqual((history.text, history.deeds), (text, deeds))

    def test_shapes(self):
        self.beside_model(shaped_histories())

    def test_drawn(self):
        self.beside_model(drawn_histories(600))

    def test_great(self):
        self.beside_model(great_histories())

    def test_by_mended_by(self):
        """A row behind a death is that of the web behind it."""
        for history in drawn_histories(60, 5000):
            for rule in RULES:
                rows = played_by(rule, history)
                for number, deed in enumerate(history.deeds):
                    if deed[0] == 'die':
                        ahead = web_of(first_deeds(history, number).living, rows[number - 1])
                        self.assertEqual(mended_by(rule, ahead, deed[1]).ties, rows[number])

    def test_nothing_later_counts(self):
        for history in drawn_histories(40, 6000):
            for rule in RULES:
                rows = played_by(rule, history)
                for many in range(len(history) + 1):
                    self.assertEqual(played_by(rule, first_deeds(history, many)), rows[:many])


class TestForAllHistories(unittest.TestCase):

    def walk(self, rule, history, check):
        """Calls check behind each deed: with the deed, who is beside whom ahead and now, and in the elder web."""
        rows = played_by(rule, history)
        play = Play('none')
        ahead = {}
        for deed, row in zip(history.deeds, rows):
            play.go_on(deed)
            now = {name: set() for name in play.beside}
            for one, other in row:
                now[one].add(other)
                now[other].add(one)
            check(deed, ahead, now, play.elder)
            ahead = now

    def never_farther(self, deed, ahead, now, elder):
        for one in now:
            found, told = ways_from(now, one), ways_from(elder, one)
            self.assertEqual(set(found), set(told) & set(now))
            for other, far in found.items():
                self.assertLessEqual(far, told[other])

    def joined(self, deed, ahead, now, elder):
        for one in now:
            self.assertEqual(set(ways_from(now, one)), set(ways_from(elder, one)) & set(now))

    def one_more(self, deed, ahead, now, elder):
        self.joined(deed, ahead, now, elder)
        if deed[0] == 'die':
            for name in now:
                self.assertLessEqual(len(now[name]), len(ahead[name]) + 1)

    def elder_alone(self, deed, ahead, now, elder):
        for name in now:
            self.assertEqual(now[name], elder[name] & set(now))

    def all_of(self, histories):
        for history in histories:
            for rule in KEEPERS:
                self.walk(rule, history, self.never_farther)
            for rule in ('line', 'ring'):
                self.walk(rule, history, self.one_more)
            self.walk('none', history, self.elder_alone)

    def test_shapes(self):
        self.all_of(shaped_histories(2))

    def test_drawn(self):
        self.all_of(drawn_histories(250, 20000))

    def test_judged_beside_it(self):
        """Rules that join all have no parted and no joined pairs."""
        for history in drawn_histories(120, 30000):
            for rule in JOINERS:
                found = judged(history, played_by(rule, history), 'web')
                self.assertTrue(found == ('kept',) or found[2] in ('ties', 'far', 'changes'), found)
            found = judged(history, played_by('none', history), 'web')
            self.assertTrue(found == ('kept',) or found[2] in ('parted', 'far'), found)

    def test_as_far_as_in_webs(self):
        """Beside what how_far and elder_web tell themselves."""
        for history in drawn_histories(25, 40000):
            for rule in KEEPERS:
                web = web_of(history.living, played_by(rule, history)[-1] if len(history) else ())
                elder = elder_web(history)
                for one in web.places:
                    for other in web.places:
                        found, told = how_far(web, one, other), how_far(elder, one, other)
                        self.assertEqual(found is None, told is None)
                        if found is not None:
                            self.assertLessEqual(found, told)

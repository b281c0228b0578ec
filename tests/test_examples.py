"""The examples of the document, as they are written there."""

import doctest
import unittest

from tests.test_language import FOLDER

WEBS = r'''
>>> from healedwebs.webs import far_from, farthest, how_far, is_wood, parts_of, ties_of, Web, web_of
>>> web = Web('places a b c d e\ntie a b\ntie a c\ntie c d')
>>> [web.places, web.ties, len(web), 'e' in web]
[('a', 'b', 'c', 'd', 'e'), (('a', 'b'), ('a', 'c'), ('c', 'd')), 5, True]
>>> [ties_of(web, 'a'), how_far(web, 'b', 'd'), how_far(web, 'b', 'e'), far_from(web, 'c')]
[('b', 'c'), 3, None, (('a', 1), ('b', 2), ('c', 0), ('d', 1))]
>>> [parts_of(web), farthest(web), is_wood(web), is_wood(web_of(('x', 'y', 'z'), (('x', 'y'), ('x', 'z'), ('y', 'z'))))]
[(('a', 'b', 'c', 'd'), ('e',)), (3, 'b', 'd'), True, False]
>>> [web_of((), ()).text, farthest(Web('places p q')), parts_of(web_of((), ()))]
['places', (0, 'p', 'p'), ()]
'''

HISTORIES = r'''
>>> from healedwebs.histories import dead_parts, elder_ties, elder_web, figures, first_deeds, History, is_wood_history, led_on, rims, slots
>>> history = History('come a\ncome b a\ncome c a\ncome d b c\ndie a\ncome e d')
>>> [len(history), history.deeds[3], history.deeds[4], history.living, history.dead]
[6, ('come', 'd', ('b', 'c')), ('die', 'a'), ('b', 'c', 'd', 'e'), ('a',)]
>>> [elder_web(history).ties, elder_ties(history, 'a'), elder_ties(history, 'd')]
[(('a', 'b'), ('a', 'c'), ('b', 'd'), ('c', 'd'), ('d', 'e')), 2, 3]
>>> [slots(history), dead_parts(history), rims(history), is_wood_history(history)]
[(('b', 'a'), ('c', 'a')), (('a',),), (('b', 'c'),), False]
>>> later = led_on(led_on(history, ('die', 'c')), ('die', 'e'))
>>> [later.text == history.text + '\ndie c\ndie e', slots(later), dead_parts(later), rims(later)]
[True, (('b', 'a'), ('d', 'c'), ('d', 'e')), (('a', 'c'), ('e',)), (('b', 'd'), ('d',))]
>>> [first_deeds(history, 1).text, is_wood_history(first_deeds(history, 3)), [figures(number) for number in (0, 1, 2, 7, 8)]]
['come a', True, [0, 1, 2, 3, 4]]
'''

JUDGED = r'''
>>> from healedwebs.histories import History
>>> from healedwebs.judged import is_rows, judged, measures
>>> star = History('come a\ncome b a\ncome c a\ncome d a\ndie a')
>>> ahead = ((), (('a', 'b'),), (('a', 'b'), ('a', 'c')), (('a', 'b'), ('a', 'c'), ('a', 'd')))
>>> line, none = (*ahead, (('b', 'c'), ('c', 'd'))), (*ahead, ())
>>> [is_rows(star, line), is_rows(star, ahead), is_rows(star, (*ahead, (('a', 'b'),)))]
[True, False, False]
>>> [judged(star, line, 'web'), judged(star, line, 'wood'), judged(star, none, 'wood')]
[('kept',), ('kept',), ('broken', 4, 'parted', ('b', 'c'), None, None)]
>>> judged(star, ((), (), *line[2:]), 'web')
('broken', 1, 'coming', ('a', 'b'), None, None)
>>> [measures(star, line), measures(star, none)]
[(1, (2, 1), (1, 1), 2), (0, (1, 1), (1, 1), 0)]
>>> pair = History('come a\ncome b\ncome c')
>>> judged(pair, ((), (), (('a', 'b'),)), 'web')
('broken', 2, 'coming', ('a', 'b'), None, None)
'''

HEALER = r'''
>>> from healedwebs.healer import healed
>>> from healedwebs.histories import History
>>> from healedwebs.judged import judged
>>> star = History('come a\ncome b a\ncome c a\ncome d a\ncome e a\ndie a')
>>> rows = healed(star)
>>> [len(rows), rows[3], judged(star, rows, 'web')]
[6, (('a', 'b'), ('a', 'c'), ('a', 'd')), ('kept',)]
>>> healed(History('come a\ncome b a\ncome c b\ndie b'))[3]
(('a', 'c'),)
'''

WILLS = r'''
>>> from healedwebs.histories import History
>>> from healedwebs.wills import healed_wood
>>> star = History('come a\ncome b a\ncome c a\ndie a\ncome d c')
>>> healed_wood(star)
((), (('a', 'b'),), (('a', 'b'), ('a', 'c')), (('b', 'c'),), (('b', 'c'), ('c', 'd')))
>>> names = 'bcdefghij'
>>> many = History('\n'.join(['come a'] + ['come ' + name + ' a' for name in names] + ['die a']))
>>> last = healed_wood(many)[-1]
>>> all([len([tie for tie in last if name in tie]) <= 4 for name in names])
True
'''

LIVE = r'''
>>> from healedwebs.live import HealedWeb
>>> web = HealedWeb('wood')
>>> [web.come('a', ()), web.come('b', ('a',)), web.changed, web.come('c', ('a',)), web.ties]
[None, None, ((('a', 'b'),), ()), None, (('a', 'b'), ('a', 'c'))]
>>> other = web.copy()
>>> [other.die('a'), other.ties, other.changed, other.names, len(web), 'a' in other]
[None, (('b', 'c'),), ((('b', 'c'),), (('a', 'b'), ('a', 'c'))), ('b', 'c'), 3, False]
>>> [web.tied_to('a'), web.past.deeds[1], other.past.deeds[-1]]
[('b', 'c'), ('come', 'b', ('a',)), ('die', 'a')]
'''

RULES = r'''
>>> from healedwebs.breakers import breaker, shows_breaker
>>> from healedwebs.histories import History
>>> from healedwebs.rules import mended_by, played_by
>>> from healedwebs.webs import Web
>>> web = Web('places a b c m\ntie a c\ntie a m\ntie b m\ntie c m')
>>> [mended_by(rule, web, 'm').ties for rule in ('none', 'line', 'least')]
[(('a', 'c'),), (('a', 'b'), ('a', 'c'), ('b', 'c')), (('a', 'b'), ('a', 'c'), ('b', 'c'))]
>>> played_by('star', History('come m\ncome a m\ncome b m\ncome c m\ndie m'))[-1]
(('a', 'b'), ('a', 'c'))
>>> [breaker('star', 'far', 3), breaker('none', 'changes', 1), shows_breaker('line', 'parted', 0, None)]
[None, None, True]
>>> [shows_breaker('none', 'parted', 0, breaker('none', 'parted', 0)), shows_breaker('ring', 'more', 7, breaker('ring', 'more', 7))]
[True, True]
>>> star = History('come m\ncome a m\ncome b m\ncome c m\ncome d m\ndie m')
>>> [shows_breaker(rule, 'far', goal, star) for rule, goal in (('line', 1), ('line', 2), ('ring', 1), ('star', 1))]
[True, False, False, False]
>>> [shows_breaker('all', 'changes', 1, star), shows_breaker('star', 'changes', 1, star), shows_breaker('star', 'more', 1, star)]
[True, False, True]
'''

STARS = r'''
>>> from healedwebs.stars import is_tree_for, least_far, shows_least_far, tree_farthest, tree_room, web_floor
>>> [is_tree_for((2, 2, 1), ((0, 1), (0, 2))), is_tree_for((1, 2, 1), ((0, 1), (0, 2))), is_tree_for((0,), ()), is_tree_for((2, 2, 2), ((0, 1),))]
[True, False, True, False]
>>> [least_far((1, 3, 1, 1)), least_far((5,)), least_far((3, 3, 1, 1, 1, 1))[0], least_far((2, 2, 2, 2))[0]]
[(2, ((0, 1), (1, 2), (1, 3))), (0, ()), 3, 3]
>>> [tree_farthest((2, 2, 2, 2), ((0, 1), (0, 2), (1, 3))), shows_least_far((2, 2, 2, 2), (3, ((0, 1), (0, 2), (1, 3))))]
[3, True]
>>> [tree_room(0, 3), tree_room(1, 3), tree_room(2, 3), tree_room(3, 3), tree_room(4, 3), tree_room(9, 1), tree_room(9, 2)]
[1, 2, 4, 6, 10, 2, 10]
>>> [web_floor(1, 3), web_floor(4, 3), web_floor(5, 3), web_floor(10, 3), web_floor(11, 3), web_floor(9, 2), web_floor(2, 1)]
[0, 1, 2, 2, 3, 4, 1]
'''

DESKS = r'''
>>> from healedwebs.desk import Desk, desk_text, read_desk
>>> desk = Desk()
>>> desk.lead(('history', 'star', 'come a\ncome b a\ncome c a'))
>>> desk.lead(('live', 'now', 'wood'))
>>> desk.lead(('play', 'now', 'star'))
>>> desk.note('whole')
>>> desk.lead(('die', 'now', 'a'))
>>> [desk.names, desk.thing_kind('now'), desk.thing_of('now').ties, desk.far_of('now', 'b', 'c')]
[('now', 'star'), 'live', (('b', 'c'),), 1]
>>> desk.lead(('past', 'all', 'now'))
>>> desk.lead(('elder', 'old', 'all'))
>>> [desk.thing_of('all').text, desk.far_of('old', 'b', 'c')]
['come a\ncome b a\ncome c a\ndie a', 2]
>>> desk.back('whole')
>>> [desk.names, desk.thing_of('now').ties, len(desk.all_deeds()[1])]
[('now', 'star'), (('a', 'b'), ('a', 'c')), 3]
>>> desk_text(desk).split('\n')[:4] + desk_text(desk).split('\n')[-4:]
['stand 3', 'note whole 3', 'history star 3', 'come a', 'play now star', 'die now a', 'past all now', 'elder old all']
>>> desk_text(read_desk(desk_text(desk))) == desk_text(desk)
True
'''


class TestExamples(unittest.TestCase):

    def run_example(self, text, name):
        example = doctest.DocTestParser().get_doctest(text, {}, name, None, 0)
        self.assertTrue(example.examples)
        out = []
        found = doctest.DocTestRunner(verbose=False).run(example, out=out.append)
        self.assertEqual(found.failed, 0, ''.join(out))

    def test_section_4(self):
        self.run_example(WEBS, 'section 4')

    def test_section_5(self):
        self.run_example(HISTORIES, 'section 5')

    def test_section_6(self):
        self.run_example(JUDGED, 'section 6')

    def test_section_7(self):
        self.run_example(HEALER, 'section 7')

    def test_section_8(self):
        self.run_example(WILLS, 'section 8')

    def test_section_9(self):
        self.run_example(LIVE, 'section 9')

    def test_section_10(self):
        self.run_example(RULES, 'section 10')

    def test_section_11(self):
        self.run_example(STARS, 'section 11')

    def test_section_12(self):
        self.run_example(DESKS, 'section 12')

    def test_readme(self):
        text = (FOLDER.parent / 'README.md').read_text('utf-8')
        self.run_example(text.replace('```', ''), 'README.md')

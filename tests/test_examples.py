"""The examples of the document, as they are written there."""

import doctest
import unittest

from tests.test_language import FOLDER

WEBS = r'''
>>> from healedwebs.webs import far_from, farthest, how_far, is_wood, parts_of, ties_of, Web, web_of
>>> web = Web('places a b c d e\ntie a b\ntie a c\ntie c d')
>>> [web.places, web.ties, len(web), 'e' in web]
[('a', 'b', 'c', 'd', 'e'), (('a', 'b'), ('a', 'c'), ('c', 'd')), 5, True]
>>> [ties_of(web, 'a'), how_far(web, 'b', 'd'), how_far(web, 'b', 'e'), far_from(web, 'c')]
[('b', 'c'), 3, None, (('a', 1), ('b', 2), ('c', 0), ('d', 1))]
>>> [parts_of(web), farthest(web), is_wood(web), is_wood(web_of(('x', 'y', 'z'), (('x', 'y'), ('x', 'z'), ('y', 'z'))))]
[(('a', 'b', 'c', 'd'), ('e',)), (3, 'b', 'd'), True, False]
>>> [web_of((), ()).text, farthest(Web('places p q')), parts_of(web_of((), ()))]
['places', (0, 'p', 'p'), ()]
'''

HISTORIES = r'''
>>> from healedwebs.histories import dead_parts, elder_ties, elder_web, figures, first_deeds, History, is_wood_history, led_on, rims, slots
>>> history = History('come a\ncome b a\ncome c a\ncome d b c\ndie a\ncome e d')
>>> [len(history), history.deeds[3], history.deeds[4], history.living, history.dead]
[6, ('come', 'd', ('b', 'c')), ('die', 'a'), ('b', 'c', 'd', 'e'), ('a',)]
>>> [elder_web(history).ties, elder_ties(history, 'a'), elder_ties(history, 'd')]
[(('a', 'b'), ('a', 'c'), ('b', 'd'), ('c', 'd'), ('d', 'e')), 2, 3]
>>> [slots(history), dead_parts(history), rims(history), is_wood_history(history)]
[(('b', 'a'), ('c', 'a')), (('a',),), (('b', 'c'),), False]
>>> later = led_on(led_on(history, ('die', 'c')), ('die', 'e'))
>>> [later.text == history.text + '\ndie c\ndie e', slots(later), dead_parts(later), rims(later)]
[True, (('b', 'a'), ('d', 'c'), ('d', 'e')), (('a', 'c'), ('e',)), (('b', 'd'), ('d',))]
>>> [first_deeds(history, 1).text, is_wood_history(first_deeds(history, 3)), [figures(number) for number in (0, 1, 2, 7, 8)]]
['come a', True, [0, 1, 2, 3, 4]]
'''


class TestExamples(unittest.TestCase):

    def run_example(self, text, name):
        example = doctest.DocTestParser().get_doctest(text, {}, name, None, 0)
        self.assertTrue(example.examples)
        out = []
        found = doctest.DocTestRunner(verbose=False).run(example, out=out.append)
        self.assertEqual(found.failed, 0, ''.join(out))

    def test_section_4(self):
        self.run_example(WEBS, 'section 4')

    def test_section_5(self):
        self.run_example(HISTORIES, 'section 5')

    def test_readme(self):
        text = (FOLDER.parent / 'README.md').read_text('utf-8')
        self.run_example(text.replace('```', ''), 'README.md')

"""HealedWeb: what it tells behind each deed, its copies, its errors."""

import unittest

from healedwebs.errors import BadKind, BadName, BadTies, Held, NoPlace, NotWood, TooMany
from healedwebs.healer import healed
from healedwebs.histories import History, led_on
from healedwebs.live import HealedWeb
from healedwebs.webs import Web
from healedwebs.wills import healed_wood
from tests.kinds import Raises, many_names, no_names, no_strings, no_tuples
from tests.models import dice_of
from tests.shapes import (amid, busiest, by_chance, eaten, first_comer, full, grid, led, random_web_comings,
                          random_wood_comings, star, stars_of_stars)

KINDS = ('web', 'wood')
HEALERS = {'web': healed, 'wood': healed_wood}


def state(web):
    """All that a live web tells."""
    return (web.kind, web.past.text, web.past.deeds, web.names, web.ties, web.changed, len(web),
            [web.tied_to(name) for name in web.names])


def grown(kind):
    """A live web with a dead middle, of which d came later."""
    web = led(HealedWeb(kind), History('come m\ncome a m\ncome b m\ncome c m\ndie m\ncome d b').deeds)
    return web


class Live(unittest.TestCase, Raises):
    """For test cases: a live web beside the rows of its past."""

    def stands(self, web):
        rows = HEALERS[web.kind](web.past)
        row, ahead = ((), ()) + rows[-1:], ((), ()) + rows[-2:-1]
        row, ahead = row[-1], ahead[-1]
        self.assertEqual(web.ties, row)
        self.assertEqual(web.names, web.past.living)
        self.assertEqual(web.changed, (tuple([tie for tie in row if tie not in ahead]),
                                       tuple([tie for tie in ahead if tie not in row])))
        self.assertEqual(len(web), len(web.past.living))
        self.assertIs(type(web.past), History)
        for name in web.past.living:
            self.assertIs(name in web, True)
            told = [one if other == name else other for one, other in row if name in (one, other)]
            self.assertEqual(web.tied_to(name), tuple(sorted(told)))
        for name in web.past.dead:
            self.assertIs(name in web, False)

    def leads(self, web, deed):
        """One deed more, and what is told behind it."""
        ahead = web.past
        if deed[0] == 'come':
            self.assertIsNone(web.come(deed[1], deed[2]))
        else:
            self.assertIsNone(web.die(deed[1]))
        self.assertEqual(web.past, led_on(ahead, deed))
        self.assertEqual(web.past.deeds, ahead.deeds + (deed,))
        self.stands(web)


class TestHealedWeb(Live):

    def test_without_deeds(self):
        for kind in KINDS:
            for web in (HealedWeb(kind), HealedWeb(kind=kind)):
                self.assertEqual((web.kind, web.past, web.names, web.ties, web.changed, len(web)),
                                 (kind, History(''), (), (), ((), ()), 0))
                self.assertFalse('a' in web)
                self.stands(web)

    def test_bad_kind(self):
        for value in no_strings() + ['', 'Web', 'WOOD', 'webs', 'we', ' web', 'kind', ('web',), ['wood']]:
            self.raises(BadKind, value, HealedWeb, value)
            self.raises(BadKind, value, HealedWeb, kind=value)

    def test_arguments_by_name(self):
        for kind in KINDS:
            web = HealedWeb(kind=kind)
            self.assertIsNone(web.come(name='a', ties=()))
            self.assertIsNone(web.come(ties=('a',), name='b'))
            self.assertEqual(web.tied_to(name='a'), ('b',))
            self.assertIsNone(web.die(name='a'))
            self.assertEqual(web.past.text, 'come a\ncome b a\ndie a')

    def test_changed(self):
        web = HealedWeb('wood')
        found = []
        for deed in History('come b\ncome a b\ncome c b\ncome x\ndie x\ndie b\ndie a\ndie c').deeds:
            led(web, [deed])
            found.append(web.changed)
        self.assertEqual(found, [((), ()), ((('a', 'b'),), ()), ((('b', 'c'),), ()), ((), ()), ((), ()),
                                 ((('a', 'c'),), (('a', 'b'), ('b', 'c'))), ((), (('a', 'c'),)), ((), ())])

    def test_kinds_of_values(self):
        for kind in KINDS:
            web = grown(kind)
            for value in (web.names, web.ties, web.changed, web.changed[0], web.changed[1], web.ties[0],
                          web.tied_to('b'), eaten(kind, star(3), first_comer, 3).changed[0][0]):
                self.assertIs(type(value), tuple)
            self.assertIs(type(web.past), History)
            self.assertIs(type(web.copy()), HealedWeb)

    def test_values_in_a_web(self):
        for kind in KINDS:
            web = grown(kind)
            self.assertEqual([name for name in ('a', 'b', 'c', 'd', 'm', 'x', 'ab') if name in web], list('abcd'))
            for value in no_names() + ['m', 'x', 'come', ('a',), ['a'], ('a', 'b')]:
                self.assertIs(value in web, False, repr(value))

    def test_each_deed_of_webs(self):
        for number in range(12):
            dice = dice_of(number)
            comings = random_web_comings(dice, 20, 3, 0.1)
            for deeds in (amid('web', comings, dice, by_chance(dice), 0.4, 3).past.deeds,
                          eaten('web', comings, busiest).past.deeds):
                web = HealedWeb('web')
                for deed in deeds:
                    self.leads(web, deed)
        for comings in (star(12), grid(4, 4), full(7), stars_of_stars(3, 3)):
            web = HealedWeb('web')
            for deed in eaten('web', comings, first_comer).past.deeds:
                self.leads(web, deed)

    def test_each_deed_of_woods(self):
        for number in range(12):
            dice = dice_of(number)
            comings = random_wood_comings(dice, 20, 3, 0.1)
            for deeds in (amid('wood', comings, dice, by_chance(dice), 0.4, 1).past.deeds,
                          eaten('wood', comings, busiest).past.deeds):
                for kind in KINDS:
                    web = HealedWeb(kind)
                    for deed in deeds:
                        self.leads(web, deed)

    def test_equal_deeds_tell_the_same(self):
        for kind in KINDS:
            self.assertEqual(state(grown(kind)), state(grown(kind)))

    def test_what_was_taken_stays(self):
        for kind in KINDS:
            web = led(HealedWeb(kind), star(8))
            past, names, ties, changed = web.past, web.names, web.ties, web.changed
            told = (past.text, past.deeds, past.living, past.dead, tuple(names), tuple(ties), tuple(changed), len(past))
            while len(web):
                web.die(web.names[-1])
            self.assertEqual((past.text, past.deeds, past.living, past.dead, names, ties, changed, len(past)), told)
            self.assertEqual(HEALERS[kind](past)[-1], ties)


class TestCopies(Live):

    def test_copies_go_on_by_themselves(self):
        for kind in KINDS:
            web = grown(kind)
            other = web.copy()
            told = state(web)
            self.assertEqual(state(other), told)
            self.leads(other, ('die', 'b'))
            self.assertEqual(state(web), told)
            third = other.copy()
            behind = state(other)
            self.leads(web, ('come', 'e', ('d',)))
            self.leads(third, ('die', 'd'))
            self.assertEqual(state(other), behind)
            self.leads(other, ('come', 'e', ('c',)))
            self.leads(web, ('die', 'c'))
            self.assertEqual([made.past.text.split('\n')[6:] for made in (web, other, third)],
                             [['come e d', 'die c'], ['die b', 'come e c'], ['die b', 'die d']])
            for made in (web, other, third):
                self.stands(made)

    def test_copies_of_those_without_deeds(self):
        for kind in KINDS:
            web = HealedWeb(kind)
            other = web.copy()
            self.leads(other, ('come', 'a', ()))
            self.assertEqual((state(web), other.kind), (state(HealedWeb(kind)), kind))

    def test_what_changed_last_is_copied(self):
        for kind in KINDS:
            web = led(HealedWeb(kind), History('come m\ncome a m\ncome b m\ndie m').deeds)
            self.assertEqual(web.copy().changed, ((('a', 'b'),), (('a', 'm'), ('b', 'm'))))

    def test_led_on_in_turns(self):
        for kind in KINDS:
            for number in range(12):
                dice = dice_of(number)
                if kind == 'web':
                    comings = random_web_comings(dice, 22, 4)
                else:
                    comings = random_wood_comings(dice, 22, 3)
                webs = [led(HealedWeb(kind), comings)]
                names = iter(many_names(600))
                for _ in range(70):
                    at = dice.randrange(len(webs))
                    web, others = webs[at], [state(other) for other in webs]
                    roll = dice.random()
                    if roll < 0.15 and len(webs) < 6:
                        webs.append(web.copy())
                        self.assertEqual(state(webs[-1]), others[at])
                    elif roll < 0.35 or not len(web):
                        ties = tuple(sorted(dice.sample(web.names, min(len(web), dice.choice([0, 1, 1, 3])))))
                        web.come('x' + next(names), ties if kind == 'web' else ties[:1])
                    else:
                        web.die(dice.choice(web.names))
                    for one, (other, told) in enumerate(zip(webs, others)):
                        if one != at:
                            self.assertEqual(state(other), told)
                for web in webs:
                    self.stands(web)


class TestErrors(Live):

    def refuses(self, web, error, value, call, *args, **more):
        """The very error, and nothing changed behind it."""
        told = state(web)
        self.raises(error, value, call, *args, **more)
        self.assertEqual(state(web), told)

    def test_bad_names(self):
        for kind in KINDS:
            for web in (HealedWeb(kind), grown(kind)):
                for value in no_names() + [('x',), ['x'], {'x': 'x'}]:
                    for ties in ((), ('a',), ('zz',), None, ['a'], ('a', 'b')):
                        self.refuses(web, BadName, value, web.come, value, ties)
                self.refuses(web, BadName, None, web.come, name=None, ties=None)

    def test_held_names(self):
        for kind in KINDS:
            web = grown(kind)
            for name in ('a', 'b', 'c', 'd', 'm'):
                for ties in ((), ('a',), ('m',), None, [[]], ('a', 'b'), 5):
                    self.refuses(web, Held, name, web.come, name, ties)
            self.refuses(web, Held, 'm', web.come, ties=(), name='m')

    def test_bad_ties(self):
        for kind in KINDS:
            web = grown(kind)
            for ties in no_tuples() + [['a'], ['a', 'b'], {'a': 'a'}, ('b', 'a'), ('a', 'a'), ('m',), ('a', 'm'), ('e',),
                                       ('z',), (True,), ('a', True), (['a'],), (('a',),), ('a', None), (1, 2), ({},),
                                       ('ab',), ('',), (Web('places a'),), ('a', 'b', 'b'), ('a', 'c', 'b')]:
                self.refuses(web, BadTies, ties, web.come, 'e', ties)
            self.refuses(web, BadTies, 'a', web.come, ties='a', name='e')
            self.refuses(HealedWeb(kind), BadTies, ('a',), HealedWeb(kind).come, 'a', ('a',))

    def test_no_wood(self):
        web = grown('wood')
        for ties in (('a', 'b'), ('a', 'b', 'c', 'd'), ('c', 'd')):
            self.refuses(web, NotWood, ties, web.come, 'e', ties)
        self.refuses(web, BadTies, ('a', 'm'), web.come, 'e', ('a', 'm'))
        self.refuses(web, BadTies, ('b', 'a'), web.come, 'e', ('b', 'a'))
        self.leads(web, ('come', 'e', ('a',)))
        self.leads(grown('web'), ('come', 'e', ('a', 'b', 'c', 'd')))

    def test_no_place(self):
        for kind in KINDS:
            for web in (HealedWeb(kind), grown(kind)):
                for value in no_names() + ['m', 'x', 'come', ('a',), ['a'], ('a', 'b')]:
                    self.refuses(web, NoPlace, value, web.die, value)
                    self.refuses(web, NoPlace, value, web.tied_to, value)
                self.refuses(web, NoPlace, 'm', web.die, name='m')
                self.refuses(web, NoPlace, 'm', web.tied_to, name='m')

    def test_goes_on_behind_errors(self):
        for kind in KINDS:
            web = grown(kind)
            self.refuses(web, BadName, 'A', web.come, 'A', ())
            self.refuses(web, NoPlace, 'm', web.die, 'm')
            self.refuses(web, BadTies, ('m',), web.come, 'e', ('m',))
            self.leads(web, ('come', 'e', ('c',)))
            self.leads(web, ('die', 'c'))

    def test_200th_and_201st_coming(self):
        names = many_names(203)
        for kind in KINDS:
            web = led(HealedWeb(kind), [('come', name, names[:1] * (name > 'aa')) for name in names[:199]])
            web.die('ab')
            self.leads(web, ('come', names[199], ('ac',)))
            for _ in range(2):
                self.refuses(web, TooMany, 200, web.come, names[200], ())
                self.refuses(web, TooMany, 200, web.come, ties=names[150:151], name='zzz')
                self.refuses(web, BadName, 1, web.come, 1, 1)
                self.refuses(web, Held, 'ab', web.come, 'ab', 1)
                self.refuses(web, BadTies, ['aa'], web.come, 'zzz', ['aa'])
                self.leads(web, ('die', web.names[0]))
                self.refuses(web.copy(), TooMany, 200, web.copy().come, 'zzz', ())
            self.refuses(web, NotWood if kind == 'wood' else TooMany, web.names[:2] if kind == 'wood' else 200,
                         web.come, 'zzz', web.names[:2])

    def test_401st_deed(self):
        names = many_names(200)
        for kind in KINDS:
            web = led(HealedWeb(kind), [('come', name, ()) for name in names] + [('die', name) for name in names[:199]])
            self.refuses(web, TooMany, 200, web.come, 'zzz', ())
            self.leads(web, ('die', names[199]))
            self.assertEqual((len(web.past), len(web)), (400, 0))
            self.refuses(web, TooMany, 400, web.come, 'zzz', ())
            self.refuses(web, TooMany, 400, web.come, name='zzz', ties=())
            self.refuses(web, BadName, 'Z', web.come, 'Z', ())
            self.refuses(web, Held, 'aa', web.come, 'aa', ())
            self.refuses(web, BadTies, ('aa',), web.come, 'zzz', ('aa',))
            # Nobody lives any more behind 400 deeds.
            self.refuses(web, NoPlace, 'aa', web.die, 'aa')

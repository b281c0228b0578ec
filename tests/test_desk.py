"""Desks: each deed, and each error with its very value, in the told order, behind which nothing has changed."""

import unittest

from healedwebs.desk import Desk, read_desk
from healedwebs.errors import (BadDeed, BadHistory, BadKind, BadName, BadNumber, BadPlace, BadPlay, BadTies, BadWeb,
                               Held, NoPlace, NoThing, NotWood, TooMany, WrongKind)
from healedwebs.healer import healed
from healedwebs.histories import History, elder_web, first_deeds
from healedwebs.live import HealedWeb
from healedwebs.webs import Web, how_far, web_of
from healedwebs.wills import healed_wood
from tests.desks import PARTS, PlainDesk, drawn_deed, shown, state, web_at, wrong_with
from tests.kinds import Raises, many_names, no_names, no_strings, no_tuples, raised
from tests.models import dice_of

WEB = 'places p q r s\ntie p q\ntie q r'
STAR = 'come m\ncome p m\ncome q m\ncome r m\ndie m'

NO_WEBS = no_strings() + ['', 'place', 'places p\n', 'places q p', 'places p\ntie p q', STAR]
NO_HISTORIES = no_strings() + ['\n', 'come', 'come p\ncome p', 'die p', 'come p\n', WEB]


def full_desk():
    """A desk with things of each kind: w, a web; h, a history; l, a live web; f, a live wood; one deed is undone."""
    desk = Desk()
    for deed in (('web', 'w', WEB), ('history', 'h', STAR), ('live', 'l', 'web'), ('play', 'l', 'h'),
                 ('live', 'f', 'wood'), ('come', 'f', 'x', ()), ('come', 'f', 'y', ('x',)), ('copy', 'w', 'gone')):
        desk.lead(deed)
    desk.note('here')
    desk.undo()
    return desk


class Desks(unittest.TestCase, Raises):
    """For test cases: deeds that are done, and those that are refused."""

    def refuses(self, desk, error, value, deed):
        told = state(desk)
        self.raises(error, value, desk.lead, deed)
        self.raises(error, value, desk.lead, deed=deed)
        self.assertEqual(state(desk), told)

    def refuses_call(self, desk, error, value, call, /, *args, **more):
        told = state(desk)
        self.raises(error, value, call, *args, **more)
        self.assertEqual(state(desk), told)

    def shows(self, desk, name, kind, told):
        """The thing of a name, as all calls tell it."""
        self.assertTrue(name in desk and name in desk.names)
        self.assertEqual(desk.thing_kind(name), kind)
        found = desk.thing_of(name)
        self.assertEqual(shown(found), shown(told))
        self.assertIs(type(found), type(told))


class TestDesk(Desks):

    def test_empty(self):
        desk = Desk()
        self.assertEqual((desk.names, len(desk), desk.notes(), desk.all_deeds()), ((), 0, (), ((), ())))
        for value in no_names() + ['a', 'abcdefgh']:
            self.assertIs(value in desk, False)
            self.raises(NoThing, value, desk.thing_of, value)
            self.raises(NoThing, value, desk.thing_kind, value)
            self.raises(NoThing, value, desk.far_of, value, 'p', 'q')

    def test_names(self):
        desk = full_desk()
        self.assertEqual((desk.names, len(desk)), (('f', 'h', 'l', 'w'), 4))
        self.assertEqual([name in desk for name in ('f', 'h', 'l', 'w', 'gone', 'x', 'm', 'here')],
                         [True] * 4 + [False] * 4)
        for value in no_names() + [('w',), ['w'], {'w': 'w'}, Web('places w'), ('f', 'h')]:
            self.assertIs(value in desk, False)
        for value in (desk.names, desk.notes(), desk.all_deeds(), *desk.all_deeds(), desk.notes()[0]):
            self.assertIs(type(value), tuple)

    def test_methods_return_none(self):
        desk = Desk()
        for deed in (('web', 'a', 'places'), ('drop', 'a'), ('live', 'b', 'web'), ('come', 'b', 'p', ()),
                     ('die', 'b', 'p')):
            self.assertIsNone(desk.lead(deed))
        self.assertEqual([desk.undo(), desk.redo(), desk.note('x'), desk.back('x'), desk.lead(deed=('drop', 'b')),
                          desk.note(word='y'), desk.back(word='x')], [None] * 7)

    def test_desks_go_on_by_themselves(self):
        one, other = Desk(), Desk()
        one.lead(('web', 'a', 'places'))
        one.note('x')
        self.assertEqual(state(other), state(Desk()))
        other.lead(('history', 'a', ''))
        self.assertEqual((one.thing_kind('a'), other.thing_kind('a')), ('web', 'history'))


class TestDeeds(Desks):

    def test_web(self):
        desk = Desk()
        desk.lead(('web', 'a', WEB))
        self.shows(desk, 'a', 'web', Web(WEB))
        desk.lead(('web', 'abcdefgh', 'places'))
        self.shows(desk, 'abcdefgh', 'web', Web('places'))
        self.assertEqual(desk.all_deeds(), ((('web', 'a', WEB), ('web', 'abcdefgh', 'places')), ()))

    def test_history(self):
        desk = Desk()
        desk.lead(('history', 'a', STAR))
        desk.lead(('history', 'b', ''))
        self.shows(desk, 'a', 'history', History(STAR))
        self.shows(desk, 'b', 'history', History(''))

    def test_elder(self):
        desk = full_desk()
        desk.lead(('elder', 'e', 'h'))
        self.shows(desk, 'e', 'web', elder_web(History(STAR)))

    def test_first(self):
        for many in range(6):
            desk = full_desk()
            desk.lead(('first', 'e', 'h', many))
            self.shows(desk, 'e', 'history', first_deeds(History(STAR), many))

    def test_past(self):
        desk = full_desk()
        desk.lead(('past', 'e', 'l'))
        self.shows(desk, 'e', 'history', History(STAR))
        desk.lead(('die', 'l', 'p'))
        self.shows(desk, 'e', 'history', History(STAR))
        desk.lead(('past', 'd', 'l'))
        self.shows(desk, 'd', 'history', History(STAR + '\ndie p'))
        desk.lead(('live', 'n', 'wood'))
        desk.lead(('past', 'o', 'n'))
        self.shows(desk, 'o', 'history', History(''))

    def test_copy(self):
        desk = full_desk()
        for name in 'whlf':
            desk.lead(('copy', name, name + name))
            self.shows(desk, name + name, desk.thing_kind(name), desk.thing_of(name))
            desk.lead(('drop', name))
            desk.lead(('copy', name + name, name))
        self.assertEqual(desk.names, ('f', 'ff', 'h', 'hh', 'l', 'll', 'w', 'ww'))

    def test_copies_of_live_webs_go_on_by_themselves(self):
        desk = full_desk()
        desk.lead(('copy', 'l', 'k'))
        told = shown(desk.thing_of('l'))
        desk.lead(('die', 'k', 'p'))
        self.assertEqual(shown(desk.thing_of('l')), told)
        self.shows(desk, 'k', 'live', web_at('web', History(STAR + '\ndie p').deeds))
        desk.lead(('come', 'l', 'pz', ('q',)))
        desk.lead(('copy', 'k', 'j'))
        desk.lead(('die', 'j', 'q'))
        desk.lead(('die', 'l', 'r'))
        self.shows(desk, 'l', 'live', web_at('web', History(STAR + '\ncome pz q\ndie r').deeds))
        self.shows(desk, 'k', 'live', web_at('web', History(STAR + '\ndie p').deeds))
        self.shows(desk, 'j', 'live', web_at('web', History(STAR + '\ndie p\ndie q').deeds))

    def test_drop_and_the_same_name_again(self):
        desk = full_desk()
        for name in 'whlf':
            desk.lead(('drop', name))
            self.assertFalse(name in desk)
            self.raises(NoThing, name, desk.thing_of, name)
        self.assertEqual((desk.names, len(desk)), ((), 0))
        desk.lead(('live', 'w', 'wood'))
        desk.lead(('web', 'l', 'places p'))
        self.shows(desk, 'w', 'live', HealedWeb('wood'))
        self.shows(desk, 'l', 'web', Web('places p'))

    def test_live(self):
        desk = Desk()
        for kind in ('web', 'wood'):
            desk.lead(('live', kind, kind))
            self.shows(desk, kind, 'live', HealedWeb(kind))

    def test_come_and_die(self):
        for kind in ('web', 'wood'):
            desk = Desk()
            desk.lead(('live', 'a', kind))
            web = HealedWeb(kind)
            for deed in History(STAR + '\ncome s q\ndie q\ndie p\ncome t r\ndie r').deeds:
                desk.lead((deed[0], 'a', *deed[1:]))
                if deed[0] == 'come':
                    web.come(*deed[1:])
                else:
                    web.die(deed[1])
                self.shows(desk, 'a', 'live', web)
                rows = (healed_wood if kind == 'wood' else healed)(web.past)
                self.assertEqual(desk.thing_of('a').ties, rows[-1])

    def test_play(self):
        desk = full_desk()
        desk.lead(('history', 'more', 'come z'))
        desk.lead(('play', 'l', 'more'))
        self.shows(desk, 'l', 'live', web_at('web', History(STAR + '\ncome z').deeds))
        desk.lead(('play', 'f', 'h'))
        self.shows(desk, 'f', 'live', web_at('wood', History('come x\ncome y x\n' + STAR).deeds))
        desk.lead(('history', 'none', ''))
        told = shown(desk.thing_of('f'))
        desk.lead(('play', 'f', 'none'))
        self.assertEqual(shown(desk.thing_of('f')), told)
        self.assertEqual(len(desk.all_deeds()[0]), 12)

    def test_words_as_names(self):
        desk = Desk()
        for word in PARTS:
            desk.lead(('history', word, 'come die'))
        desk.lead(('live', 'stand', 'web'))
        desk.lead(('come', 'stand', 'note', ()))
        desk.lead(('play', 'stand', 'play'))
        self.assertEqual(desk.thing_of('stand').names, ('die', 'note'))
        self.assertEqual(len(desk), 12)

    def test_drawn_deeds(self):
        done = refused = 0
        for number in range(60):
            dice = dice_of(number)
            desk, plain = Desk(), PlainDesk()
            for _ in range(40):
                deed = drawn_deed(dice, plain.things)
                wrong = wrong_with(plain.things, deed)
                if wrong is None:
                    desk.lead(deed)
                    plain.lead(deed)
                    done += 1
                else:
                    self.raises(*wrong, desk.lead, deed)
                    refused += 1
                told = state(desk)
                self.assertEqual(told[:4] + told[5:], plain.state())
        self.assertTrue(done > 1000 and refused > 200, (done, refused))


class TestRefusedDeeds(Desks):

    def test_no_deed(self):
        desk = full_desk()
        for value in no_tuples() + [(), ('',), ('Web', 'n', WEB), ('tie', 'p', 'q'), (['web'], 'n', WEB),
                                    ({}, 'n', 'w'), (None,), (True, 'n'), (('web', 'n', WEB),), ('webs', 'n', WEB),
                                    ('note', 'x'), ('undo',), ('redo',), ('stand', 1), ('back', 'here'), ['drop', 'w'],
                                    ['web', 'n', WEB], [('drop', 'w')], (Web('places'), 'n'), (0, 'n', 'w'), 'drop w',
                                    {'drop': 'w'}]:
            self.refuses(desk, BadDeed, value, value)

    def test_too_few_and_too_many_parts(self):
        desk = full_desk()
        right = {'web': ('n', WEB), 'history': ('n', STAR), 'elder': ('n', 'h'), 'first': ('n', 'h', 1),
                 'past': ('n', 'l'), 'copy': ('w', 'n'), 'drop': ('w',), 'live': ('n', 'web'), 'come': ('l', 'z', ()),
                 'die': ('l', 'p'), 'play': ('f', 'h')}
        self.assertEqual(set(right), set(PARTS))
        for word, parts in right.items():
            deed = (word, *parts)
            others = [deed[:many] for many in range(1, len(deed))]
            others += [deed + ('z',), deed + ((),), deed + (None, None), list(deed), (deed,), (word, parts),
                       (word, list(parts))]
            for value in others:
                if value != deed and wrong_with({}, value)[0] is BadDeed:
                    self.refuses(desk, BadDeed, value, value)
            self.assertIsNone(full_desk().lead(deed))

    def test_new_names(self):
        desk = full_desk()
        for word, rest in (('web', (WEB,)), ('history', (STAR,)), ('elder', ('h',)), ('first', ('h', 1)),
                           ('past', ('l',)), ('live', ('web',))):
            for value in no_names():
                self.refuses(desk, BadName, value, (word, value, *rest))
                self.refuses(desk, BadName, value, (word, value, *[None] * len(rest)))
                self.refuses(desk, BadName, value, (word, value, *[[]] * len(rest)))
            for name in desk.names:
                self.refuses(desk, Held, name, (word, name, *rest))
                self.refuses(desk, Held, name, (word, name, *['zz'] * len(rest)))
                self.refuses(desk, Held, name, (word, name, *[{}] * len(rest)))

    def test_bad_webs(self):
        desk = full_desk()
        for text in NO_WEBS:
            self.refuses(desk, *raised(Web, text), ('web', 'n', text))
        self.refuses(desk, BadWeb, 0, ('web', 'n', None))
        self.refuses(desk, BadWeb, 2, ('web', 'n', 'places p\ntie p p'))

    def test_bad_histories(self):
        desk = full_desk()
        for text in NO_HISTORIES:
            self.refuses(desk, *raised(History, text), ('history', 'n', text))
        self.refuses(desk, BadHistory, 0, ('history', 'n', 5))
        self.refuses(desk, BadHistory, 2, ('history', 'n', 'come p\ncome p'))

    def test_elder_first_past_of_what_is_none(self):
        desk = full_desk()
        for value in no_names() + ['x', 'gone', 'here', ('h',), ['h'], {'h': 'h'}, ['l']]:
            self.refuses(desk, NoThing, value, ('elder', 'n', value))
            self.refuses(desk, NoThing, value, ('first', 'n', value, 1))
            self.refuses(desk, NoThing, value, ('first', 'n', value, None))
            self.refuses(desk, NoThing, value, ('past', 'n', value))
        self.refuses(desk, NoThing, 'n', ('elder', 'n', 'n'))
        for name in 'wlf':
            self.refuses(desk, WrongKind, name, ('elder', 'n', name))
            self.refuses(desk, WrongKind, name, ('first', 'n', name, 1))
            self.refuses(desk, WrongKind, name, ('first', 'n', name, -1))
        for name in 'wh':
            self.refuses(desk, WrongKind, name, ('past', 'n', name))

    def test_first_of_too_many(self):
        desk = full_desk()
        for value in [each for each in no_strings() if type(each) is not int] + ['1', '', -1, 6, 10 ** 39, (1,), [1]]:
            self.refuses(desk, BadNumber, value, ('first', 'n', 'h', value))

    def test_copy_and_drop(self):
        desk = full_desk()
        for value in no_names() + ['x', 'gone', ('w',), ['w'], {'w': 'w'}]:
            for other in ('n', 'w', 'A', None, []):
                self.refuses(desk, NoThing, value, ('copy', value, other))
            self.refuses(desk, NoThing, value, ('drop', value))
        for value in no_names():
            self.refuses(desk, BadName, value, ('copy', 'w', value))
        for name in desk.names:
            self.refuses(desk, Held, name, ('copy', 'w', name))
        self.refuses(desk, Held, 'l', ('copy', 'l', 'l'))

    def test_live(self):
        desk = full_desk()
        for value in no_strings() + ['', 'Web', 'woods', 'we', 'live', 'history', ('web',), ['wood']]:
            self.refuses(desk, BadKind, value, ('live', 'n', value))

    def test_come_and_die_of_what_is_none(self):
        desk = full_desk()
        for value in no_names() + ['x', 'p', 'gone', ('l',), ['l'], {'l': 'l'}]:
            for place in ('z', 'p', None, []):
                self.refuses(desk, NoThing, value, ('come', value, place, ()))
                self.refuses(desk, NoThing, value, ('die', value, place))
        for name in 'wh':
            self.refuses(desk, WrongKind, name, ('come', name, 'z', ()))
            self.refuses(desk, WrongKind, name, ('come', name, None, None))
            self.refuses(desk, WrongKind, name, ('die', name, 'p'))
            self.refuses(desk, WrongKind, name, ('die', name, []))

    def test_come(self):
        desk = full_desk()
        for value in no_names():
            self.refuses(desk, BadName, value, ('come', 'l', value, ()))
            self.refuses(desk, BadName, value, ('come', 'f', value, None))
        for name in ('m', 'p', 'q', 'r'):
            self.refuses(desk, Held, name, ('come', 'l', name, ('p',)))
            self.refuses(desk, Held, name, ('come', 'l', name, []))
        for ties in no_tuples() + [['p'], ('m',), ('q', 'p'), ('p', 'p'), ('x',), (['p'],), (True,), (('p',),),
                                   ('p', None), ({},)]:
            self.refuses(desk, BadTies, ties, ('come', 'l', 'z', ties))
            if ties != ('x',):
                self.refuses(desk, BadTies, ties, ('come', 'f', 'z', ties))
        self.refuses(desk, NotWood, ('x', 'y'), ('come', 'f', 'z', ('x', 'y')))
        self.refuses(desk, BadTies, ('y', 'x'), ('come', 'f', 'z', ('y', 'x')))

    def test_die(self):
        desk = full_desk()
        for value in no_names() + ['m', 'x', 'z', ('p',), ['p'], {'p': 'p'}]:
            self.refuses(desk, NoPlace, value, ('die', 'l', value))
        self.refuses(desk, NoPlace, 'p', ('die', 'f', 'p'))

    def test_too_many(self):
        names = many_names(201)
        desk = Desk()
        desk.lead(('live', 'l', 'web'))
        desk.lead(('history', 'h', '\n'.join(['come ' + name for name in names[:200]])))
        desk.lead(('history', 'd', '\n'.join(['come zz'] + ['come ' + name for name in names[:200]][:199])))
        desk.lead(('play', 'l', 'h'))
        self.refuses(desk, TooMany, 200, ('come', 'l', 'zz', ()))
        self.refuses(desk, BadPlay, 0, ('play', 'l', 'd'))
        for name in names[:200]:
            desk.lead(('die', 'l', name))
        self.assertEqual(len(desk.thing_of('l').past), 400)
        self.refuses(desk, TooMany, 400, ('come', 'l', 'zz', ()))
        self.refuses(desk, NoPlace, 'aa', ('die', 'l', 'aa'))
        desk.lead(('live', 'k', 'web'))
        desk.lead(('come', 'k', 'zy', ()))
        self.refuses(desk, BadPlay, 199, ('play', 'k', 'h'))

    def test_play_of_what_is_none(self):
        desk = full_desk()
        for value in no_names() + ['x', 'gone', ('l',), ['l'], ['h'], {'h': 'h'}]:
            for other in ('h', 'w', 'x', None, []):
                self.refuses(desk, NoThing, value, ('play', value, other))
            self.refuses(desk, NoThing, value, ('play', 'f', value))
        for name in 'wh':
            for other in ('h', 'w', 'x', None, []):
                self.refuses(desk, WrongKind, name, ('play', name, other))
        for name in 'wlf':
            self.refuses(desk, WrongKind, name, ('play', 'f', name))

    def test_play_refused_in_the_midst(self):
        for text, number in (('come z\ncome u z\ncome x', 2), ('come z\ncome y z\ndie z', 1),
                             ('come z\ncome u z\ncome v u z\ndie u', 2), ('come x', 0),
                             ('come z\ndie z\ncome u\ncome t\ncome y', 4)):
            desk = full_desk()
            desk.lead(('history', 'n', text))
            told = shown(desk.thing_of('f'))
            self.refuses(desk, BadPlay, number, ('play', 'f', 'n'))
            self.assertEqual(shown(desk.thing_of('f')), told)
            desk.lead(('die', 'f', 'x'))
            self.shows(desk, 'f', 'live', web_at('wood', History('come x\ncome y x\ndie x').deeds))
        self.refuses(full_desk(), BadPlay, 0, ('play', 'l', 'h'))

    def test_goes_on_behind_errors(self):
        desk = full_desk()
        for _ in range(2):
            self.refuses(desk, BadTies, ('m',), ('come', 'l', 'z', ('m',)))
            self.refuses(desk, NoPlace, 'm', ('die', 'l', 'm'))
        desk.lead(('die', 'l', 'q'))
        self.shows(desk, 'l', 'live', web_at('web', History(STAR + '\ndie q').deeds))

    def test_undone_deeds_stay_behind_an_error(self):
        desk = full_desk()
        self.refuses(desk, NoThing, 'z', ('drop', 'z'))
        self.refuses(desk, BadDeed, (), ())
        desk.redo()
        self.assertEqual(desk.notes(), (('here', 8),))
        self.assertTrue('gone' in desk)

    def test_drawn_values_in_each_place(self):
        """Values of all kinds in each place of each deed: the error that the plain desk tells first."""
        things = {'w': ('web', Web(WEB)), 'h': ('history', History(STAR)), 'l': ('live', 'web', History(STAR).deeds),
                  'f': ('live', 'wood', History('come x\ncome y x').deeds)}
        values = no_names() + ['w', 'h', 'l', 'f', 'n', 'x', 'p', 'm', 'web', 'wood', WEB, STAR, ('x',), ('p', 'q'),
                               ('x', 'y'), 3]
        desk = full_desk()
        told = state(desk)
        for number in range(6000):
            dice = dice_of(number)
            word = dice.choice(list(PARTS))
            deed = (word, *[dice.choice(values) for _ in range(PARTS[word])])
            wrong = wrong_with(things, deed)
            if wrong is not None:
                self.raises(*wrong, desk.lead, deed)
            else:
                desk.lead(deed)
                desk = full_desk()
        self.assertEqual(state(desk), told)


class TestThings(Desks):

    def test_no_thing(self):
        desk = full_desk()
        for value in no_names() + ['x', 'gone', 'here', ('w',), ['w'], {'w': 'w'}, ('w', 'h')]:
            self.refuses_call(desk, NoThing, value, desk.thing_of, value)
            self.refuses_call(desk, NoThing, value, desk.thing_of, name=value)
            self.refuses_call(desk, NoThing, value, desk.thing_kind, value)
            self.refuses_call(desk, NoThing, value, desk.thing_kind, name=value)
            for one in ('p', 'zz', None):
                self.refuses_call(desk, NoThing, value, desk.far_of, value, one, one)

    def test_by_name(self):
        desk = full_desk()
        self.assertEqual([desk.thing_kind(name=name) for name in 'whlf'], ['web', 'history', 'live', 'live'])
        self.assertEqual(desk.thing_of(name='w'), Web(WEB))
        self.assertEqual(desk.far_of(other='r', one='p', name='w'), 2)

    def test_what_is_taken_goes_on_outside(self):
        desk = full_desk()
        told = state(desk)
        for name in 'lf':
            web = desk.thing_of(name)
            web.come('out', ())
            while len(web):
                web.die(web.names[0])
            self.assertEqual(state(desk), told)
            self.assertNotEqual(shown(desk.thing_of(name)), shown(web))

    def test_what_was_taken_stays(self):
        desk = full_desk()
        taken = {name: desk.thing_of(name) for name in 'whlf'}
        told = {name: shown(taken[name]) for name in 'whlf'}
        for deed in (('die', 'l', 'p'), ('come', 'f', 'z', ('y',)), ('play', 'f', 'h'), ('drop', 'w'), ('drop', 'h'),
                     ('drop', 'l')):
            desk.lead(deed)
            self.assertEqual({name: shown(taken[name]) for name in 'whlf'}, told)
        for _ in range(10):
            desk.undo()
            self.assertEqual({name: shown(taken[name]) for name in 'whlf'}, told)
        taken['l'].die('p')
        taken['f'].die('x')
        self.assertEqual(shown(taken['f'])[1], 'come x\ncome y x\ndie x')

    def test_equal_calls(self):
        desk = full_desk()
        for name in 'whlf':
            self.assertEqual(shown(desk.thing_of(name)), shown(desk.thing_of(name)))
        web, other = desk.thing_of('l'), desk.thing_of('l')
        web.die('p')
        self.assertEqual(shown(other), shown(desk.thing_of('l')))

    def test_far_of_webs(self):
        desk = full_desk()
        for one in 'pqrs':
            for other in 'pqrs':
                self.assertEqual(desk.far_of('w', one, other), how_far(Web(WEB), one, other))
        self.assertIsNone(desk.far_of('w', 'p', 's'))

    def test_far_of_live_webs(self):
        desk = full_desk()
        for name in 'lf':
            web = desk.thing_of(name)
            for one in web.names:
                for other in web.names:
                    self.assertEqual(desk.far_of(name, one, other), how_far(web_of(web.names, web.ties), one, other))
        self.assertEqual(desk.far_of('f', 'x', 'y'), 1)
        desk.lead(('come', 'f', 'z', ()))
        self.assertIsNone(desk.far_of('f', 'x', 'z'))
        desk.lead(('come', 'f', 'u', ('y',)))
        self.assertEqual(desk.far_of('f', 'u', 'x'), 2)
        desk.lead(('die', 'f', 'y'))
        self.assertEqual(desk.far_of('f', 'u', 'x'), 1)
        self.refuses_call(desk, BadPlace, 'y', desk.far_of, 'f', 'u', 'y')

    def test_far_of_errors(self):
        desk = full_desk()
        for one in ('p', 'zz', None, []):
            self.refuses_call(desk, WrongKind, 'h', desk.far_of, 'h', one, one)
        for value in no_names() + ['z', 'm', ('p',), ['p'], {'p': 'p'}]:
            for name, place in (('w', 'p'), ('l', 'p'), ('f', 'x')):
                self.refuses_call(desk, BadPlace, value, desk.far_of, name, value, place)
                self.refuses_call(desk, BadPlace, value, desk.far_of, name, place, value)
                self.refuses_call(desk, BadPlace, value, desk.far_of, name, value, 'zz')
                self.refuses_call(desk, BadPlace, value, desk.far_of, name=name, other=[], one=value)

    def test_read_desks_are_alike(self):
        desk = full_desk()
        self.assertEqual(state(read_desk(state(desk)[4])), state(desk))

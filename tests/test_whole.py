"""The whole program: all functions by the names of their arguments, equal calls, ==, one history by everything."""

import unittest

from healedwebs import breakers, desk, healer, histories, judged, live, rules, stars, webs, wills
from healedwebs.desk import Desk, desk_text, read_desk
from healedwebs.healer import healed
from healedwebs.histories import History, first_deeds, is_wood_history, led_on
from healedwebs.live import HealedWeb
from healedwebs.rules import played_by
from healedwebs.webs import Web, web_of
from healedwebs.wills import healed_wood
from tests.desks import shown
from tests.drawn import drawn_histories, shaped_histories
from tests.kinds import no_names
from tests.models import dice_of
from tests.plays import RULES, behind, mixed, rows_of
from tests.shapes import random_wood_comings
from tests.test_desk import full_desk

WEB = 'places a b c d e\ntie a b\ntie a c\ntie c d'
HISTORY = 'come a\ncome b a\ncome c a\ncome d c\ndie a\ncome e d'

HEALERS = {'web': healed, 'wood': healed_wood}


def made():
    """Objects and rows, made anew each time."""
    history = History(HISTORY)
    return {'web': Web(WEB), 'history': history, 'rows': healed_wood(history), 'limits': (3, 2, 2, 1, 1),
            'tree': ((0, 1), (0, 2), (0, 3), (1, 4)),
            'star': History('come m\ncome a m\ncome b m\ncome c m\ncome d m\ndie m')}


def calls():
    """All functions of the interface, each with arguments by name, for what made returns."""
    return [
        (webs.Web, lambda told: {'text': WEB}),
        (webs.web_of, lambda told: {'places': told['web'].places, 'ties': told['web'].ties}),
        (webs.ties_of, lambda told: {'web': told['web'], 'place': 'a'}),
        (webs.how_far, lambda told: {'web': told['web'], 'one': 'b', 'other': 'd'}),
        (webs.far_from, lambda told: {'web': told['web'], 'place': 'a'}),
        (webs.parts_of, lambda told: {'web': told['web']}),
        (webs.farthest, lambda told: {'web': told['web']}),
        (webs.is_wood, lambda told: {'web': told['web']}),
        (histories.History, lambda told: {'text': HISTORY}),
        (histories.led_on, lambda told: {'history': told['history'], 'deed': ('die', 'd')}),
        (histories.first_deeds, lambda told: {'history': told['history'], 'many': 3}),
        (histories.elder_web, lambda told: {'history': told['history']}),
        (histories.elder_ties, lambda told: {'history': told['history'], 'name': 'a'}),
        (histories.slots, lambda told: {'history': told['history']}),
        (histories.dead_parts, lambda told: {'history': told['history']}),
        (histories.rims, lambda told: {'history': told['history']}),
        (histories.is_wood_history, lambda told: {'history': told['history']}),
        (histories.figures, lambda told: {'number': 9}),
        (judged.is_rows, lambda told: {'history': told['history'], 'value': told['rows']}),
        (judged.judged, lambda told: {'history': told['history'], 'rows': told['rows'], 'kind': 'wood'}),
        (judged.measures, lambda told: {'history': told['history'], 'rows': told['rows']}),
        (healer.healed, lambda told: {'history': told['history']}),
        (wills.healed_wood, lambda told: {'history': told['history']}),
        (rules.mended_by, lambda told: {'rule': 'ring', 'web': told['web'], 'name': 'a'}),
        (rules.played_by, lambda told: {'rule': 'least', 'history': told['star']}),
        (breakers.breaker, lambda told: {'rule': 'ring', 'kind': 'changes', 'goal': 3}),
        (breakers.shows_breaker, lambda told: {'rule': 'line', 'kind': 'far', 'goal': 1, 'value': told['star']}),
        (stars.is_tree_for, lambda told: {'limits': told['limits'], 'value': told['tree']}),
        (stars.tree_farthest, lambda told: {'limits': told['limits'], 'ties': told['tree']}),
        (stars.least_far, lambda told: {'limits': told['limits']}),
        (stars.shows_least_far, lambda told: {'limits': told['limits'], 'value': (3, told['tree'])}),
        (stars.tree_room, lambda told: {'far': 4, 'most': 3}),
        (stars.web_floor, lambda told: {'many': 11, 'most': 3}),
        (desk.desk_text, lambda told: {'desk': full_desk()}),
    ]


class TestCalls(unittest.TestCase):

    def test_by_position_by_name_and_again(self):
        told = made()
        for call, arguments in calls():
            first = call(**arguments(told))
            self.assertEqual(first, call(**arguments(told)), call)
            self.assertEqual(first, call(*arguments(told).values()), call)
            self.assertEqual(first, call(**arguments(made())), call)
            self.assertEqual(first, call(**dict(reversed(arguments(made()).items()))), call)
        self.assertEqual(told, made())

    def test_all_calls_are_there(self):
        self.assertEqual(len({call for call, _ in calls()}), 34)

    def test_objects_with_the_names_of_their_arguments(self):
        web = live.HealedWeb(kind='web')
        self.assertEqual([web.come(name='a', ties=()), web.come(ties=('a',), name='b'), web.tied_to(name='a'),
                          web.die(name='b')],
                         [None, None, ('b',), None])
        one = Desk()
        self.assertEqual([one.lead(deed=('web', 'w', WEB)), one.note(word='x'), one.back(word='x')], [None] * 3)
        self.assertEqual([one.thing_of(name='w'), one.thing_kind(name='w'), one.far_of(other='d', one='b', name='w')],
                         [Web(WEB), 'web', 3])
        self.assertEqual(desk_text(desk=read_desk(text=desk_text(desk=one))), desk_text(one))

    def test_attributes_are_what_they_were(self):
        told = made()
        for call, arguments in calls():
            call(**arguments(told))
        self.assertEqual([told['web'].text, told['web'].places, told['web'].ties],
                         [WEB, Web(WEB).places, Web(WEB).ties])
        self.assertEqual([told['history'].text, told['history'].deeds, told['history'].living, told['history'].dead],
                         [HISTORY, History(HISTORY).deeds, ('b', 'c', 'd', 'e'), ('a',)])


class TestEquality(unittest.TestCase):

    def equal(self, one, other, right):
        self.assertIs(one == other, right)
        self.assertIs(other == one, right)
        self.assertIs(one != other, not right)
        self.assertIs(other != one, not right)

    def test_webs(self):
        texts = ['places', 'places a', 'places a b', 'places a b\ntie a b', WEB]
        for one in texts:
            for other in texts:
                self.equal(Web(one), Web(other), one == other)
                self.equal((Web(one),), (Web(other),), one == other)
        self.equal(Web('places a b\ntie a b'), web_of(('a', 'b'), (('a', 'b'),)), True)

    def test_histories(self):
        texts = ['', 'come a', 'come a\ndie a', 'come a\ncome b', 'come b\ncome a', HISTORY]
        for one in texts:
            for other in texts:
                self.equal(History(one), History(other), one == other)
        self.equal(led_on(History(''), ('come', 'a', ())), History('come a'), True)
        self.equal(first_deeds(History(HISTORY), 1), History('come a'), True)

    def test_with_other_values(self):
        others = [value for value in no_names() if not isinstance(value, (Web, History))]
        for value in [*others, WEB, HISTORY, 'places', HealedWeb('web'), Desk(), ('a', 'b'), (Web(WEB),),
                      [History('')]]:
            for one in (Web('places'), Web(WEB), History(''), History(HISTORY)):
                self.equal(one, value, False)

    def test_webs_and_histories(self):
        for web in (Web('places'), Web(WEB)):
            for history in (History(''), History(HISTORY)):
                self.equal(web, history, False)


class TestOneHistoryByEverything(unittest.TestCase):

    def by_everything(self, history):
        """One wood history by both healers, all rules, judged, live webs and a desk: the same rows everywhere."""
        rows = {kind: HEALERS[kind](history) for kind in HEALERS}
        plays = {rule: played_by(rule, history) for rule in RULES}
        one = Desk()
        one.lead(('history', 'all', history.text))
        for kind in HEALERS:
            self.assertEqual(judged.judged(history, rows[kind], kind), ('kept',))
            one.lead(('live', kind, kind))
            one.lead(('live', 'by' + kind, kind))
            one.lead(('play', 'by' + kind, 'all'))
        webs_by = {kind: HealedWeb(kind) for kind in HEALERS}
        for number, deed in enumerate(history.deeds):
            for kind, web in webs_by.items():
                one.lead((deed[0], kind, *deed[1:]))
                if deed[0] == 'come':
                    web.come(deed[1], deed[2])
                else:
                    web.die(deed[1])
                self.assertEqual([web.ties, one.thing_of(kind).ties], [rows[kind][number]] * 2)
        for kind, web in webs_by.items():
            self.assertEqual([shown(one.thing_of(kind)), shown(one.thing_of('by' + kind))], [shown(web)] * 2)
            self.assertEqual(one.thing_of(kind).past, history)
        for rule, played in plays.items():
            self.assertEqual(played, rows_of(rule, history))
            self.assertTrue(judged.is_rows(history, played))
        for row in zip(history.deeds, rows['web'], rows['wood'], *plays.values()):
            # As long as nobody has died, all have the ties of the elder web.
            if row[0][0] == 'die':
                break
            self.assertEqual(len(set(row[1:])), 1)
        self.back_again(one, history)

    def back_again(self, one, history):
        """By the deeds of the desk backwards, and on again."""
        one.note('end')
        told = [shown(one.thing_of(name)) for name in one.names]
        for many in range(len(history) - 1, -1, -max(1, len(history) // 5)):
            while len(one.all_deeds()[0]) > 7 + 2 * many:
                one.undo()
            for kind in HEALERS:
                rows = HEALERS[kind](first_deeds(history, many))
                self.assertEqual(one.thing_of(kind).ties, rows[-1] if rows else ())
        one.back('end')
        self.assertEqual([shown(one.thing_of(name)) for name in one.names], told)
        other = read_desk(desk_text(one))
        self.assertEqual([shown(other.thing_of(name)) for name in other.names], told)

    def test_drawn_woods(self):
        for number in range(30):
            dice = dice_of(number)
            comings = random_wood_comings(dice, dice.choice([5, 12, 25]), dice.choice([1, 3, 10]), 0.1)
            names = [deed[1] for deed in comings]
            self.by_everything(behind(comings, dice.sample(names, len(names) - 1)))
            self.by_everything(mixed(dice, comings, 0.35))

    def test_a_great_wood(self):
        comings = random_wood_comings(dice_of(7), 200, 9)
        self.by_everything(behind(comings, dice_of(8).sample([deed[1] for deed in comings], 200)))

    def test_shapes_that_are_woods(self):
        for history in shaped_histories(1):
            if is_wood_history(history):
                self.by_everything(history)

    def test_webs_by_the_healer_of_webs(self):
        for history in [*shaped_histories(1), *drawn_histories(60, 90000)]:
            web = HealedWeb('web')
            one = Desk()
            one.lead(('live', 'l', 'web'))
            one.lead(('history', 'h', history.text))
            one.lead(('play', 'l', 'h'))
            for deed, row in zip(history.deeds, healed(history)):
                if deed[0] == 'come':
                    web.come(deed[1], deed[2])
                else:
                    web.die(deed[1])
                self.assertEqual(web.ties, row)
            self.assertEqual(shown(one.thing_of('l')), shown(web))
            self.assertEqual(judged.judged(history, healed(history), 'web'), ('kept',))

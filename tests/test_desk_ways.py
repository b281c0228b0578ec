"""Desks back and forth: undo, redo, notes, back, all_deeds, beside desks that make all things anew."""

import unittest

from healedwebs.desk import Desk, desk_text, read_desk
from healedwebs.errors import BadName, Held, NoNote, NothingToRedo, NothingToUndo
from healedwebs.histories import History
from healedwebs.webs import Web
from tests.desks import PlainDesk, drawn_deed, drawn_play, shown, state, web_at, wrong_with
from tests.kinds import no_names
from tests.models import dice_of
from tests.test_desk import Desks, full_desk

DEEDS = (('history', 'h', 'come m\ncome p m\ncome q m\ndie m'), ('live', 'l', 'wood'), ('come', 'l', 'x', ()),
         ('play', 'l', 'h'), ('copy', 'l', 'k'), ('die', 'k', 'p'), ('die', 'l', 'q'), ('past', 'o', 'k'),
         ('elder', 'e', 'o'), ('first', 'f', 'o', 3), ('drop', 'l'), ('web', 'l', 'places z'), ('copy', 'k', 'j'),
         ('come', 'j', 'y', ('q',)), ('drop', 'h'))


def led_desk(many=len(DEEDS)):
    desk = Desk()
    for deed in DEEDS[:many]:
        desk.lead(deed)
    return desk


class TestUndoAndRedo(Desks):

    def test_each_deed_alone(self):
        """A desk that undid deeds is as one that never did them; done again, as one that did."""
        told = [state(led_desk(many)) for many in range(len(DEEDS) + 1)]
        desk = led_desk()
        for many in reversed(range(len(DEEDS))):
            self.assertIsNone(desk.undo())
            found = state(desk)
            self.assertEqual(found[:3] + found[5:], told[many][:3] + told[many][5:])
            self.assertEqual(desk.all_deeds(), (DEEDS[:many], DEEDS[many:]))
        for many in range(1, len(DEEDS) + 1):
            self.assertIsNone(desk.redo())
            found = state(desk)
            self.assertEqual(found[:3] + found[5:], told[many][:3] + told[many][5:])
            self.assertEqual(desk.all_deeds(), (DEEDS[:many], DEEDS[many:]))
        self.assertEqual(state(desk), told[-1])

    def test_there_and_back_in_between(self):
        told = [state(led_desk(many))[5] for many in range(len(DEEDS) + 1)]
        for low in range(len(DEEDS)):
            desk = led_desk()
            for many in [*range(len(DEEDS) - 1, low - 1, -1), *range(low + 1, len(DEEDS) + 1)]:
                desk.undo() if len(desk.all_deeds()[0]) > many else desk.redo()
                self.assertEqual(state(desk)[5], told[many])

    def test_nothing_to_undo(self):
        desk = Desk()
        self.refuses_call(desk, NothingToUndo, 0, desk.undo)
        desk.lead(('web', 'a', 'places'))
        desk.undo()
        self.refuses_call(desk, NothingToUndo, 0, desk.undo)
        self.assertEqual(desk.all_deeds(), ((), (('web', 'a', 'places'),)))

    def test_nothing_to_redo(self):
        self.refuses_call(Desk(), NothingToRedo, 0, Desk().redo)
        for many in range(1, 6):
            desk = led_desk(many)
            self.refuses_call(desk, NothingToRedo, many, desk.redo)
            desk.undo()
            desk.redo()
            self.refuses_call(desk, NothingToRedo, many, desk.redo)

    def test_a_new_deed_behind_undone_ones(self):
        desk = led_desk(6)
        desk.undo()
        desk.undo()
        desk.lead(('web', 'n', 'places'))
        self.assertEqual(desk.all_deeds(), (DEEDS[:4] + (('web', 'n', 'places'),), ()))
        self.refuses_call(desk, NothingToRedo, 5, desk.redo)
        self.assertEqual(desk.names, ('h', 'l', 'n'))

    def test_the_same_deed_anew_is_a_new_one(self):
        desk = led_desk(6)
        desk.undo()
        desk.undo()
        desk.lead(DEEDS[4])
        self.assertEqual(desk.all_deeds(), (DEEDS[:5], ()))
        self.refuses_call(desk, NothingToRedo, 5, desk.redo)

    def test_live_webs_go_on_behind_undone_deeds(self):
        desk = led_desk(4)
        for deed in (('die', 'l', 'x'), ('come', 'l', 'z', ('p',))):
            desk.lead(deed)
            desk.undo()
        desk.lead(('die', 'l', 'p'))
        self.shows(desk, 'l', 'live', web_at('wood', History('come x\ncome m\ncome p m\ncome q m\ndie m\ndie p').deeds))
        desk.undo()
        desk.undo()
        self.shows(desk, 'l', 'live', web_at('wood', History('come x').deeds))
        desk.redo()
        desk.lead(('come', 'l', 'z', ('q',)))
        told = History('come x\ncome m\ncome p m\ncome q m\ndie m\ncome z q')
        self.shows(desk, 'l', 'live', web_at('wood', told.deeds))

    def test_things_taken_stay_when_deeds_are_undone(self):
        desk = led_desk()
        taken = [desk.thing_of(name) for name in desk.names]
        told = [shown(thing) for thing in taken]
        while desk.all_deeds()[0]:
            desk.undo()
        self.assertEqual([shown(thing) for thing in taken], told)
        while desk.all_deeds()[1]:
            desk.redo()
        self.assertEqual([shown(thing) for thing in taken], told)

    def test_what_was_led_on_outside_is_not_done_again(self):
        desk = led_desk(5)
        web = desk.thing_of('l')
        desk.undo()
        web.die('x')
        desk.redo()
        self.assertNotEqual(shown(desk.thing_of('l')), shown(web))
        self.assertTrue('x' in desk.thing_of('l'))

    def test_many_deeds(self):
        desk = Desk()
        desk.lead(('live', 'l', 'web'))
        names = [one + other for one in 'abcdefghij' for other in 'abcdefghij']
        for name in names:
            desk.lead(('come', 'l', name, desk.thing_of('l').names[-1:]))
        for name in names[:50]:
            desk.lead(('die', 'l', name))
        told = state(desk)
        desk.note('top')
        for _ in range(3):
            for _ in range(151):
                desk.undo()
            self.assertEqual(desk.names, ())
            desk.back('top')
            self.assertEqual(state(desk)[5], told[5])


class TestNotes(Desks):

    def test_note(self):
        desk = led_desk(3)
        self.assertEqual(desk.notes(), ())
        desk.note('three')
        desk.undo()
        desk.note('two')
        desk.note('again')
        self.assertEqual(desk.notes(), (('again', 2), ('three', 3), ('two', 2)))
        desk.note('three')
        self.assertEqual(desk.notes(), (('again', 2), ('three', 2), ('two', 2)))

    def test_notes_are_no_deeds(self):
        desk = led_desk(3)
        desk.note('x')
        self.assertEqual(desk.all_deeds(), (DEEDS[:3], ()))
        desk.undo()
        desk.note('y')
        self.assertEqual(desk.all_deeds(), (DEEDS[:2], DEEDS[2:3]))
        desk.redo()
        self.assertEqual(desk.notes(), (('x', 3), ('y', 2)))

    def test_notes_that_are_forgotten(self):
        desk = led_desk(4)
        for word, many in (('four', 4), ('three', 3), ('two', 2), ('one', 1), ('zero', 0)):
            while len(desk.all_deeds()[0]) > many:
                desk.undo()
            desk.note(word)
        desk.redo()
        desk.redo()
        self.assertEqual(len(desk.notes()), 5)
        desk.lead(('web', 'n', 'places'))
        # Two deeds stood ahead of it.
        self.assertEqual(desk.notes(), (('one', 1), ('two', 2), ('zero', 0)))
        desk.note('three')
        desk.lead(('drop', 'n'))
        self.assertEqual(desk.notes(), (('one', 1), ('three', 3), ('two', 2), ('zero', 0)))

    def test_refused_deeds_forget_no_notes(self):
        desk = led_desk(4)
        desk.note('four')
        desk.undo()
        desk.undo()
        self.refuses(desk, Held, 'h', ('web', 'h', 'places'))
        self.assertEqual(desk.notes(), (('four', 4),))
        desk.back('four')
        self.assertEqual(desk.all_deeds(), (DEEDS[:4], ()))

    def test_back(self):
        told = [state(led_desk(many))[5] for many in range(len(DEEDS) + 1)]
        desk = Desk()
        for many, deed in enumerate(DEEDS):
            desk.note('n' + 'abcdefghijklmnopqrstuvwxyz'[many])
            desk.lead(deed)
        notes = desk.notes()
        self.assertEqual(len(notes), len(DEEDS))
        for number in range(60):
            word, many = dice_of(number).choice(notes)
            self.assertIsNone(desk.back(word))
            self.assertEqual(desk.all_deeds(), (DEEDS[:many], DEEDS[many:]))
            self.assertEqual((desk.notes(), state(desk)[5]), (notes, told[many]))

    def test_back_to_where_it_stands(self):
        desk = led_desk(5)
        desk.note('here')
        told = state(desk)
        desk.back('here')
        self.assertEqual(state(desk), told)
        empty = Desk()
        empty.note('here')
        empty.back('here')
        self.assertEqual((empty.notes(), empty.all_deeds()), ((('here', 0),), ((), ())))

    def test_bad_words(self):
        for desk in (Desk(), full_desk()):
            for value in no_names():
                self.refuses_call(desk, BadName, value, desk.note, value)
                self.refuses_call(desk, BadName, value, desk.note, word=value)
            for value in no_names() + ['x', 'w', 'gone', ('here',), ['here'], {'here': 1}, 7, 8]:
                self.refuses_call(desk, NoNote, value, desk.back, value)
                self.refuses_call(desk, NoNote, value, desk.back, word=value)

    def test_words_like_names_of_things(self):
        desk = led_desk(2)
        desk.note('h')
        desk.note('stand')
        desk.note('note')
        self.assertEqual(desk.notes(), (('h', 2), ('note', 2), ('stand', 2)))
        self.assertEqual(desk.names, ('h', 'l'))


class TestDrawn(Desks):

    def test_beside_plain_desks(self):
        for number in range(120):
            dice = dice_of(number)
            desk, plain = Desk(), PlainDesk()
            for _ in range(25):
                drawn_play(dice, desk, plain, 3)
                told = state(desk)
                self.assertEqual(told[:4] + told[5:], plain.state())

    def test_errors_amid(self):
        for number in range(40):
            dice = dice_of(1000 + number)
            desk, plain = Desk(), PlainDesk()
            for _ in range(15):
                drawn_play(dice, desk, plain, 3)
                for _ in range(5):
                    deed = drawn_deed(dice, plain.things)
                    wrong = wrong_with(plain.things, deed)
                    if wrong is not None:
                        self.refuses(desk, *wrong, deed)
                if not plain.deeds:
                    self.refuses_call(desk, NothingToUndo, 0, desk.undo)
                if not plain.undone:
                    self.refuses_call(desk, NothingToRedo, len(plain.deeds), desk.redo)

    def test_read_desks_go_on_alike(self):
        for number in range(60):
            dice = dice_of(2000 + number)
            desk, plain = Desk(), PlainDesk()
            drawn_play(dice, desk, plain, 40)
            other = read_desk(desk_text(desk))
            self.assertEqual(state(other), state(desk))
            again = dice_of(3000 + number)
            drawn_play(again, other, plain, 25)
            self.assertEqual(state(other)[:4] + state(other)[5:], plain.state())

    def test_things_are_alike_by_text(self):
        desk = led_desk()
        self.assertEqual(desk.thing_of('e'), read_desk(desk_text(desk)).thing_of('e'))
        self.assertEqual(desk.thing_of('l'), Web('places z'))
        self.assertEqual(desk.thing_of('f'), History('come x\ncome m\ncome p m'))

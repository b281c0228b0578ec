"""desk_text and read_desk: there and back, and the first line that cannot stand."""

import unittest

from healedwebs.desk import Desk, desk_text, read_desk
from healedwebs.errors import BadDesk
from tests.desks import PARTS, PlainDesk, drawn_play, state
from tests.journals import spoilt, wrong_line
from tests.kinds import many_names, no_strings
from tests.models import dice_of
from tests.test_desk import STAR, WEB, Desks, full_desk
from tests.test_desk_ways import DEEDS, led_desk

# One line, or several, for each deed, which can stand one behind another.
WHOLE = ('''stand 12
note a 3
note b 0
web w 4
places p q r s
tie p q
tie q r
tie r s
history h 3
come m
come p m
die m
elder e h
first f h 2
live l web
play l h
come l x p
come l y p x
die l p
past o l
copy l k
drop w''')


class Journals(Desks):

    def bad(self, number, text):
        self.raises(BadDesk, number, read_desk, text)
        self.raises(BadDesk, number, read_desk, text=text)
        self.assertEqual(wrong_line(text), number)

    def good(self, text):
        desk = read_desk(text)
        self.assertIs(type(desk), Desk)
        self.assertEqual(desk_text(desk), text)
        self.assertIsNone(wrong_line(text))
        return desk


class TestThereAndBack(Journals):

    def test_empty(self):
        self.assertEqual(desk_text(Desk()), 'stand 0')
        self.assertEqual(state(self.good('stand 0')), state(Desk()))

    def test_each_deed(self):
        desk = self.good(WHOLE)
        self.assertEqual(desk.notes(), (('a', 3), ('b', 0)))
        self.assertEqual({deed[0] for deed in desk.all_deeds()[0]}, set(PARTS))
        self.assertEqual(desk.all_deeds()[1], ())
        self.assertEqual(desk.all_deeds()[0][0], ('web', 'w', WEB + '\ntie r s'))
        self.assertEqual(desk.all_deeds()[0][3], ('first', 'f', 'h', 2))
        self.assertEqual(desk.all_deeds()[0][6:9], (('come', 'l', 'x', ('p',)), ('come', 'l', 'y', ('p', 'x')),
                                                    ('die', 'l', 'p')))

    def test_lines(self):
        desk = Desk()
        desk.lead(('history', 'h', ''))
        desk.lead(('live', 'l', 'wood'))
        desk.lead(('come', 'l', 'p', ()))
        self.assertEqual(desk_text(desk), 'stand 3\nhistory h 1\n\nlive l wood\ncome l p')
        desk.undo()
        desk.undo()
        desk.note('z')
        desk.note('y')
        self.assertEqual(desk_text(desk=desk), 'stand 1\nnote y 1\nnote z 1\nhistory h 1\n\nlive l wood\ncome l p')
        self.good(desk_text(desk))
        self.assertEqual(state(read_desk(text=desk_text(desk))), state(desk))

    def test_text_of_one_line_at_the_end(self):
        desk = self.good('stand 1\nhistory h 1\n')
        self.assertEqual(desk.all_deeds(), ((('history', 'h', ''),), ()))
        self.assertEqual(self.good('stand 0\nhistory h 1\n').names, ())

    def test_each_number_of_undone_deeds(self):
        for many in range(len(DEEDS) + 1):
            desk = led_desk()
            desk.note('all')
            for _ in range(len(DEEDS) - many):
                desk.undo()
            desk.note('now')
            other = self.good(desk_text(desk))
            self.assertEqual(state(other), state(desk))
            other.back('all')
            desk.back('all')
            self.assertEqual(state(other), state(desk))

    def test_things_that_look_like_journals(self):
        desk = Desk()
        for name in ('stand', 'note', 'web', 'history', 'come'):
            desk.lead(('history', name, 'come stand\ncome note stand\ncome web\ndie stand'))
            desk.note(name)
        self.good(desk_text(desk))

    def test_drawn_desks(self):
        for number in range(150):
            dice = dice_of(number)
            desk, plain = Desk(), PlainDesk()
            drawn_play(dice, desk, plain, dice.choice([5, 20, 60]))
            self.assertEqual(state(self.good(desk_text(desk))), state(desk))

    def test_a_great_desk(self):
        desk = Desk()
        names = many_names(200)
        desk.lead(('web', 'w', '\n'.join(['places ' + ' '.join(names)] + [
            f'tie {one} {other}' for one in names for other in names if one < other])))
        desk.lead(('history', 'h', '\n'.join(['come ' + name for name in names] + ['die ' + name for name in names])))
        for at, name in enumerate(names[:150]):
            desk.lead(('copy', 'w', name))
            desk.note(name)
            if at % 3 == 0:
                desk.lead(('drop', name))
        desk.back('aa')
        text = desk_text(desk)
        other = self.good(text)
        self.assertEqual((other.names, other.all_deeds(), other.notes()), (desk.names, desk.all_deeds(), desk.notes()))

    def test_nothing_is_changed(self):
        desk = full_desk()
        told = state(desk)
        for _ in range(3):
            self.assertEqual(desk_text(desk), told[4])
            self.assertEqual(state(read_desk(told[4])), told)
        self.assertEqual(state(desk), told)
        read_desk(told[4]).undo()
        self.assertEqual(state(desk), told)


class TestBadDesks(Journals):

    def test_no_string(self):
        for value in no_strings() + [WHOLE.split('\n'), (WHOLE,), {'text': WHOLE}, led_desk()]:
            self.raises(BadDesk, 0, read_desk, value)
            self.raises(BadDesk, 0, read_desk, text=value)

    def test_empty_and_line_feeds_at_the_end(self):
        self.bad(1, '')
        self.bad(1, '\n')
        self.bad(2, 'stand 0\n')
        self.bad(1, '\nstand 0')
        self.bad(len(WHOLE.split('\n')) + 1, WHOLE + '\n')
        self.bad(4, 'stand 1\nhistory h 1\n\n')

    def test_stand(self):
        for line in ('stand', 'stand ', 'Stand 0', ' stand 0', 'stand  0', 'stand 0 ', 'stand 0 0', 'stand a',
                     'stand -0', 'stand -1', 'stand +1', 'stand 00', 'stand 01', 'stand 1000000000', 'stand 1.0',
                     'stand 1_0', 'stand 0x1', 'stands 0', '0', 'note a 0', 'drop a', 'stand None', 'stand True'):
            self.bad(1, line)
            self.bad(1, line + '\nnote A 1')
            self.bad(1, line + '\nnonsense')

    def test_notes(self):
        for line in ('note', 'note ', 'note a', 'note a ', 'note 0', 'note a 0 ', ' note a 0', 'note  a 0',
                     'note a  0', 'note A 0', 'note abcdefghi 0', 'note a -1', 'note a +0', 'note a 00', 'note a 01',
                     'note a 1000000000', 'note a b', 'note a 0 0', 'note a a 0', 'notes a 0', 'Note a 0', 'note a1 0',
                     'note 1 0'):
            self.bad(2, 'stand 0\n' + line)
            self.bad(3, 'stand 0\nnote aa 0\n' + line.replace('note a', 'note b'))
            self.bad(2, 'stand 0\n' + line + '\nnonsense')

    def test_notes_that_do_not_ascend(self):
        self.bad(3, 'stand 0\nnote a 0\nnote a 0')
        self.bad(3, 'stand 0\nnote b 0\nnote a 0')
        self.bad(4, 'stand 0\nnote a 0\nnote c 0\nnote b 0')
        self.bad(4, 'stand 0\nnote a 0\nnote b 0\nnote a 0\nnonsense')
        self.bad(3, 'stand 0\nnote ab 0\nnote aa 9')
        self.good('stand 0\nnote a 0\nnote aa 0\nnote b 0')

    def test_notes_behind_deeds(self):
        self.bad(3, 'stand 1\nlive l web\nnote a 0')
        self.bad(3, 'stand 1\nlive l web\nstand 1')
        self.bad(2, 'stand 0\nstand 0')

    def test_each_line_spoilt(self):
        lines = WHOLE.split('\n')
        words = (*PARTS, 'stand', 'note')
        heads = [at for at, line in enumerate(lines) if line.split(' ')[0] in words and at not in (9, 10, 11)]
        self.assertEqual(len(heads), 15)
        for at in heads:
            line = lines[at]
            for new in (line + ' ', ' ' + line, line.replace(' ', '  ', 1), line.replace(' ', '   ', 1), line.upper(),
                        line + '.', line.split(' ')[0], line.replace(' ', '', 1), line + ' A', line + ' 1 1', '', ' ',
                        'nonsense', 'x' + line, line.replace(' ', ',', 1)):
                self.bad(at + 1, '\n'.join(lines[:at] + [new] + lines[at + 1:]))

    def test_lines_of_texts_spoilt(self):
        lines = WHOLE.split('\n')
        for at, head in ((4, 3), (5, 3), (6, 3), (7, 3), (9, 8), (10, 8), (11, 8)):
            for new in ('', ' ', 'nonsense', lines[at] + ' ', ' ' + lines[at], lines[at] + ' A', 'stand 1', 'note z 1'):
                self.bad(head + 1, '\n'.join(lines[:at] + [new] + lines[at + 1:]))

    def test_numbers_of_lines(self):
        for new in ('0', '-1', '+1', '01', '001', '1000000000', '1.', 'a', '', 'MANY', '-0', '00', '4 4', '1_0'):
            self.bad(2, f'stand 0\nweb w {new}\nplaces')
            self.bad(2, f'stand 0\nhistory w {new}\ncome p')
        # One line less: the first one too many is no deed.
        self.bad(6, 'stand 1\nhistory h 3\ncome m\ncome p m\ncome q m\ncome r')
        self.bad(5, 'stand 1\nweb w 2\nplaces p q\ntie p q\ntie p r')
        # One line more is lacking.
        self.bad(6, 'stand 1\nhistory h 4\ncome m\ncome p m\ndie m')

    def test_first_deeds_numbers(self):
        head = 'stand 0\nhistory h 2\ncome p\ndie p\n'
        for new in ('3', '-1', '+1', '01', '00', '1000000000', 'a', '', '1 1', '-0', '1.0', '999999999'):
            self.bad(5, head + 'first f h ' + new)
        for new in ('0', '1', '2'):
            self.good(head + 'first f h ' + new)

    def test_lacking_lines(self):
        for name in ('n', 'w', 'l'):
            for many in (3, 4, 100, 999999999):
                # Also where the deed would be refused too, for its name or for its text.
                for word in ('web', 'history'):
                    for rest in ('places p\ntie p p', 'come p\ncome p', '\n', 'nonsense\n'):
                        text = f'stand 0\nhistory w 1\n\nlive l web\n{word} {name} {many}\n{rest}'
                        self.bad(8, text)
        self.bad(3, 'stand 0\nweb w 1')
        self.bad(3, 'stand 9\nhistory h 1')
        self.bad(4, 'stand 9\nnote a 9\nhistory h 2')
        # Without its form it is the line itself.
        self.bad(2, 'stand 0\nweb W 5\nplaces')
        self.bad(2, 'stand 0\nweb w 5 5\nplaces')
        self.bad(2, 'stand 0\nweb w 05\nplaces')

    def test_refused_deeds(self):
        head = f'stand 2\nhistory h 5\n{STAR}\nlive l wood\nplay l h\n'
        self.good(head.rstrip('\n'))
        for line in ('drop x', 'elder e l', 'elder h h', 'elder e x', 'first f h 6', 'first f l 0', 'past o h',
                     'past l l', 'copy x y', 'copy h l', 'live l web', 'live k webs', 'come h z', 'come l p',
                     'come l z m', 'come l z p q', 'come l z q p', 'die l m', 'die h p', 'play l h', 'play h h',
                     'play l l', 'play x h', 'web h 1\nplaces', 'web w 1\nplace', 'history g 1\ndie p', 'come l',
                     'die l', 'drop', 'live k', 'elder e', 'come', 'undo', 'redo', 'back a', 'come L p', 'drop l l'):
            self.bad(10, head + line)
            self.bad(10, head + line + '\nnonsense')
            self.bad(10, head + line + '\ndrop l\ndrop l')

    def test_deeds_refused_behind_others(self):
        self.bad(4, 'stand 0\nlive l web\ndrop l\ndrop l')
        self.bad(4, 'stand 0\nlive l web\ncome l p\ncome l p')
        self.good('stand 0\nlive l web\ndrop l\nlive l web\ndrop l')
        self.bad(3, 'stand 1\nlive l web\nlive l web')

    def test_undone_deeds_must_stand_too(self):
        self.bad(4, 'stand 1\nlive l web\ncome l p\ndie l q')
        self.good('stand 1\nlive l web\ncome l p\ndie l p')

    def test_numbers_above_that_of_all_deeds(self):
        deeds = 'live l web\ncome l p\ndie l p'
        for many in range(4):
            self.good(f'stand {many}\n{deeds}')
            self.good(f'stand 1\nnote a {many}\nnote b 3\n{deeds}')
        for many in (4, 5, 999999999):
            self.bad(1, f'stand {many}\n{deeds}')
            self.bad(2, f'stand 3\nnote a {many}\n{deeds}')
            self.bad(3, f'stand 3\nnote a 3\nnote b {many}\nnote c {many}\n{deeds}')
            self.bad(1, f'stand {many}\nnote a {many}\n{deeds}')
            self.bad(2, f'stand 0\nnote a {many}\nnote b 0\nnote c {many}\n{deeds}')
        self.bad(1, 'stand 1')
        self.bad(2, 'stand 0\nnote a 1')

    def test_numbers_above_that_of_all_deeds_with_another_wrong_line(self):
        self.bad(5, 'stand 9\nnote a 9\nlive l web\ncome l p\ndie l q')
        self.bad(3, 'stand 9\nnote b 9\nnote a 9\nlive l web')
        self.bad(2, 'stand 9\nnote b 9 9\nlive l web')
        self.bad(4, 'stand 9\nnote b 9\nlive l web\n')
        self.bad(6, 'stand 9\nnote b 9\nlive l web\nweb w 2\nplaces')
        self.bad(1, 'stand 09\nnote b 9\nlive l web\n')

    def test_spoilt_desks(self):
        """Beside the lines that the tests find, form by form."""
        bad = good = 0
        for number in range(250):
            dice = dice_of(number)
            desk, plain = Desk(), PlainDesk()
            drawn_play(dice, desk, plain, dice.choice([6, 15, 30]))
            for _ in range(12):
                text = spoilt(dice, desk_text(desk))
                while dice.random() < 0.3:
                    text = spoilt(dice, text)
                number = wrong_line(text)
                if number is None:
                    self.good(text)
                    good += 1
                else:
                    self.bad(number, text)
                    bad += 1
        self.assertTrue(bad > 1500 and good > 300, (bad, good))

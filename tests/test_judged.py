"""judged: each word of the table, which of several is told, and the errors."""

import unittest

from healedwebs.errors import BadKind, BadRows, NotWood
from healedwebs.healer import healed
from healedwebs.histories import History, is_wood_history
from healedwebs.judged import is_rows, judged
from healedwebs.wills import healed_wood
from tests.judges import plainly_judged
from tests.kinds import Raises, many_names, no_strings, no_tuples
from tests.models import FAR, Told, all_ways, dice_of, random_lines

KINDS = ('web', 'wood')
STAR = History('come a\ncome b a\ncome c a\ncome d a\ndie a')
AHEAD = ((), (('a', 'b'),), (('a', 'b'), ('a', 'c')), (('a', 'b'), ('a', 'c'), ('a', 'd')))
LINE = AHEAD + ((('b', 'c'), ('c', 'd')),)


def comings_of(lines):
    """The rows of lines that are comings alone: all told ties."""
    rows = [()]
    for line in lines:
        _, name, *others = line.split(' ')
        rows.append(tuple(sorted([*rows[-1], *[tuple(sorted((name, other))) for other in others]])))
    return tuple(rows[1:])


def played(lines, *rows):
    """A history whose last lines are deaths, with these rows behind them, and all rows."""
    return History('\n'.join(lines)), comings_of(lines[:len(lines) - len(rows)]) + rows


def star(names):
    """The lines of a star, whose middle is called zz."""
    return ['come zz'] + ['come ' + name + ' zz' for name in names]


def line(names):
    return tuple(sorted([tuple(sorted(pair)) for pair in zip(names, names[1:])]))


def heap(names):
    """The ties of a tree in which two hang below each."""
    return tuple(sorted([tuple(sorted((names[at], names[(at - 1) // 2]))) for at in range(1, len(names))]))


def parts_told(lines):
    """The living, by whom they are joined to in the elder web."""
    told = Told(lines)
    far = all_ways(told.came, told.ties)
    parts = []
    for name in sorted(told.living):
        for part in parts:
            if far[part[0], name] < FAR:
                part.append(name)
                break
        else:
            parts.append([name])
    return parts


def drawn_row(dice, part):
    """Ties of any tree, any line or any star of these places, or of all of them."""
    part = dice.sample(part, len(part))
    shape = dice.choice(['line', 'line', 'star', 'tree', 'heap', 'full'])
    if shape == 'line':
        return line(part)
    if shape == 'heap':
        return heap(part)
    above = {'star': lambda at: [0], 'tree': lambda at: [dice.randrange(at)], 'full': range}[shape]
    return [tuple(sorted((part[at], part[one]))) for at in range(1, len(part)) for one in above(at)]


def drawn_rows(dice, history):
    """Rows that mostly join what is to be joined, with a wrong tie or a lacking one here and there."""
    lines = history.text.split('\n') if history.text else []
    slip = dice.choice([0, 0, 0.03, 0.1, 0.4])
    rows, ahead = [], set()
    for number, deed in enumerate(history.deeds):
        living = sorted(Told(lines[:number + 1]).living)
        if deed[0] == 'come':
            ahead = ahead | {tuple(sorted((deed[1], other))) for other in deed[2]}
        else:
            ahead = {tie for part in parts_told(lines[:number + 1]) for tie in drawn_row(dice, part)}
        while len(living) > 1 and dice.random() < slip:
            ahead = ahead ^ {tuple(sorted(dice.sample(living, 2)))}
        rows.append(tuple(sorted(ahead)))
    return tuple(rows)


class Judges(unittest.TestCase, Raises):
    """For test cases: what is judged, by position and by name, and, if that is not too slow, plainly."""

    def told(self, history, rows, kind, found):
        self.assertEqual(judged(history, rows, kind), found)
        self.assertEqual(judged(kind=kind, rows=rows, history=history), found)
        if len(history) < 30:
            self.assertEqual(plainly_judged(history.deeds, rows, kind), found)

    def broken(self, history, rows, kind, *found):
        self.told(history, rows, kind, ('broken', *found))

    def kept(self, history, rows, kind):
        self.told(history, rows, kind, ('kept',))


class TestKept(Judges):

    def test_no_deeds(self):
        for kind in KINDS:
            self.kept(History(''), (), kind)

    def test_star(self):
        for kind in KINDS:
            self.kept(STAR, LINE, kind)
            self.kept(History('come a\ndie a'), ((), ()), kind)
            self.kept(History('come b\ncome a b\ndie b\ndie a'), ((), (('a', 'b'),), (), ()), kind)

    def test_kinds_of_values(self):
        self.assertIs(type(judged(STAR, LINE, 'web')), tuple)
        found = judged(STAR, LINE[:3] + ((), ()), 'web')
        self.assertEqual([type(part) for part in found], [str, int, str, tuple, type(None), type(None)])


class TestComing(Judges):

    def test_ties_that_are_lacking_and_put_in(self):
        for kind in KINDS:
            self.broken(STAR, ((), (), *LINE[2:]), kind, 1, 'coming', ('a', 'b'), None, None)
            self.broken(STAR, AHEAD[:3] + ((('a', 'b'), ('a', 'd')), ()), kind, 3, 'coming', ('a', 'c'), None, None)
            self.broken(STAR, AHEAD[:2] + ((('a', 'b'), ('a', 'c'), ('b', 'c')),) + LINE[3:], kind,
                        2, 'coming', ('b', 'c'), None, None)

    def test_first_coming(self):
        lone = History('come a\ncome b\ncome c')
        for kind in KINDS:
            self.kept(lone, ((), (), ()), kind)
            self.broken(lone, ((), (), (('a', 'b'),)), kind, 2, 'coming', ('a', 'b'), None, None)
            self.broken(lone, ((), (('a', 'b'),), (('a', 'b'),)), kind, 1, 'coming', ('a', 'b'), None, None)

    def test_least_of_several_pairs(self):
        history = History('come e\ncome d e\ncome c d\ncome b c\ncome a b')
        ahead = comings_of(history.text.split('\n'))
        for kind in KINDS:
            self.kept(history, ahead, kind)
            self.broken(history, ahead[:4] + (ahead[4][:-1] + (('c', 'e'), ('d', 'e')),), kind,
                        4, 'coming', ('c', 'e'), None, None)
            self.broken(history, ahead[:4] + ((('b', 'd'), ('c', 'd')),), kind, 4, 'coming', ('a', 'b'), None, None)
            self.broken(history, ahead[:4] + ((('a', 'b'), ('b', 'd')),), kind, 4, 'coming', ('b', 'c'), None, None)

    def test_comings_behind_deaths(self):
        lines = star('bcd') + ['die zz', 'come e b']
        history, row = History('\n'.join(lines)), (('b', 'c'), ('c', 'd'))
        rows = comings_of(lines[:4]) + (row,)
        for kind in KINDS:
            self.kept(history, rows + ((('b', 'c'), ('b', 'e'), ('c', 'd')),), kind)
            self.broken(history, rows + ((('b', 'c'), ('b', 'd'), ('b', 'e')),), kind,
                        5, 'coming', ('b', 'd'), None, None)
            self.broken(history, rows + (row,), kind, 5, 'coming', ('b', 'e'), None, None)

    def test_ahead_of_other_words(self):
        # a has too many ties, is joined to others, and all of it comes with b.
        history = History('come a\ncome c\ncome b')
        self.broken(history, ((), (), (('a', 'b'), ('a', 'c'))), 'web', 2, 'coming', ('a', 'b'), None, None)
        self.broken(history, ((), (), (('a', 'c'), ('b', 'c'))), 'wood', 2, 'coming', ('a', 'c'), None, None)


class TestTies(Judges):

    def test_at_the_bound_and_beyond(self):
        for ends, kind, bound in (('bcde', 'web', 3), ('bcdef', 'wood', 4)):
            most = tuple([('b', name) for name in ends[1:]])
            self.kept(*played(star(ends) + ['die zz'], most), kind)
            more = tuple([('b', name) for name in (ends + 'x')[1:]])
            self.broken(*played(star(ends + 'x') + ['die zz'], more), kind,
                        len(ends) + 2, 'ties', ('b',), bound + 1, bound)

    def test_elder_ties_count_with_those_of_the_dead(self):
        # b has two elder ties, to the dead m and n.
        lines = ['come m', 'come b m', 'come n b'] + ['come ' + name + ' m' for name in 'cdefghi'] + ['die n', 'die m']
        ahead = comings_of(lines[:-2])[-1]
        less = tuple([tie for tie in ahead if 'n' not in tie])
        for ends, found in (('cdefgh', None), ('cdefghi', (11, 'ties', ('b',), 7, 6))):
            row = tuple([('b', name) for name in ends] + [('c', 'i')] * (ends == 'cdefgh'))
            history, rows = played(lines, less, row)
            self.told(history, rows, 'web', ('broken', *found) if found else ('kept',))
        history, rows = played(lines, less, tuple([('b', name) for name in 'cdefg'] + [('c', 'h'), ('c', 'i')]))
        self.kept(history, rows, 'wood')
        history, rows = played(lines, less, tuple([('b', name) for name in 'cdefgh'] + [('c', 'i')]))
        self.broken(history, rows, 'wood', 11, 'ties', ('b',), 6, 5)

    def test_without_elder_ties(self):
        lines = ['come a', 'come b', 'come c', 'come d', 'come e', 'come f', 'die f']
        self.broken(*played(lines, (('b', 'c'),)), 'web', 6, 'ties', ('b',), 1, 0)
        self.broken(*played(lines, (('b', 'c'),)), 'wood', 6, 'joined', ('b', 'c'), None, None)
        full = tuple([(one, other) for one in 'abcde' for other in 'abcde' if one < other])
        self.broken(*played(lines, full), 'wood', 6, 'ties', ('a',), 4, 3)

    def test_least_of_several(self):
        ends = 'bcdefgh'
        full = tuple([(one, other) for one in ends[:-1] for other in ends[:-1] if one < other])
        self.broken(*played(star(ends) + ['die zz'], full), 'web', 8, 'ties', ('b',), 5, 3)
        most = tuple([('d', name) if name > 'd' else (name, 'd') for name in 'bcefgh'])
        self.broken(*played(star(ends) + ['die zz'], tuple(sorted(most))), 'wood', 8, 'ties', ('d',), 6, 4)


class TestWays(Judges):

    def test_parted(self):
        for kind in KINDS:
            self.broken(STAR, AHEAD + ((),), kind, 4, 'parted', ('b', 'c'), None, None)
            self.broken(STAR, AHEAD + ((('b', 'd'),),), kind, 4, 'parted', ('b', 'c'), None, None)
            self.broken(STAR, AHEAD + ((('b', 'c'),),), kind, 4, 'parted', ('b', 'd'), None, None)

    def test_parted_through_many_dead(self):
        lines = ['come a', 'come b a', 'come c b', 'come d c', 'come e d', 'die c', 'die b', 'die d']
        rows = ((('a', 'b'), ('b', 'd'), ('d', 'e')), (('a', 'd'), ('d', 'e')))
        for kind in KINDS:
            self.kept(*played(lines, *rows, (('a', 'e'),)), kind)
            self.broken(*played(lines, *rows, ()), kind, 7, 'parted', ('a', 'e'), None, None)

    def test_joined(self):
        lines = star('bc') + ['come d', 'come e d', 'die zz']
        for kind in KINDS:
            self.kept(*played(lines, (('b', 'c'), ('d', 'e'))), kind)
            self.broken(*played(lines, (('b', 'c'), ('c', 'd'), ('d', 'e'))), kind, 5, 'joined', ('b', 'd'), None, None)
            self.broken(*played(lines, (('b', 'c'), ('c', 'e'), ('d', 'e'))), kind, 5, 'joined', ('b', 'd'), None, None)

    def test_joined_that_were_apart_at_the_deed_ahead_alone(self):
        lines = ['come a', 'come b', 'come d', 'come c a', 'die d', 'come e b c', 'die e']
        rows = comings_of(lines[:4]) + ((('a', 'c'),), (('a', 'c'), ('b', 'e'), ('c', 'e')))
        history = History('\n'.join(lines))
        self.kept(history, rows + ((('a', 'c'), ('b', 'c')),), 'web')
        self.broken(history, rows + ((('a', 'c'),),), 'web', 6, 'parted', ('a', 'b'), None, None)
        self.broken(history, rows[:4] + ((('a', 'b'), ('a', 'c')),) + rows[5:] + ((),), 'web',
                    4, 'ties', ('b',), 1, 0)

    def test_far_at_the_bound_and_beyond(self):
        # Two ends of a star are two apart: with 21 or 22 ties, five figures.
        names = many_names(22)
        for many, kind, found in ((21, 'web', None), (22, 'web', (21, 20)), (11, 'wood', None), (12, 'wood', (11, 10)),
                                  (15, 'wood', (14, 10)), (16, 'wood', (15, 12))):
            history, rows = played(star(names[:many]) + ['die zz'], line(names[:many]))
            if found:
                pair = min([(names[at], names[at + found[1] + 1]) for at in range(many - found[1] - 1)])
                self.broken(history, rows, kind, many + 1, 'far', pair, found[1] + 1, found[1])
            else:
                self.kept(history, rows, kind)

    def test_far_tells_how_far_the_least_pair_is(self):
        names = many_names(30)
        order = names[5:] + names[:5]
        history, rows = played(star(names) + ['die zz'], line(order))
        self.broken(history, rows, 'web', 31, 'far', ('aa', 'af'), 25, 20)
        self.broken(history, rows, 'wood', 31, 'far', ('aa', 'af'), 25, 12)

    def test_far_of_those_that_are_tied_in_the_elder_web(self):
        # a came to the first end: now the line of all ends lies between them.
        for many, kind, found in ((8, 'web', None), (9, 'web', (9, 8)), (4, 'wood', None), (5, 'wood', (5, 4))):
            ends = many_names(many)
            lines = star(ends) + ['come a aa', 'die zz']
            history, rows = played(lines, line(ends + ('a',)))
            if found:
                self.broken(history, rows, kind, many + 2, 'far', ('a', 'aa'), *found)
            else:
                self.kept(history, rows, kind)

    def test_figures_count_the_ties_of_the_dead(self):
        # Of the middle, which is dead, and of its ends that are: with 16 a line of
        # 13 that are left is near enough, but too much of the tree is struck.
        for many, found in ((16, ('changes', (), 22, 18)), (15, ('far', ('aa', 'al'), 11, 10))):
            names = many_names(many)
            deaths = ['die ' + name for name in reversed(names[13:])]
            rows = [heap(names[:left]) for left in range(many, 13, -1)]
            history, rows = played(star(names) + ['die zz'] + deaths, *rows, line(names[:13]))
            self.broken(history, rows, 'wood', len(history) - 1, *found)


class TestChanges(Judges):

    def turned(self, extra, elder, many):
        """A star's tree, turned to others at the death of a place with so many elder ties.

        So many pairs of others, without those that are left, change: those of one
        tree go, those of another come, and some between the ends of that one.
        """
        names = many_names(many)
        lines = star(names) + ['come y'] * (elder == 0) + ['come y ' + ' '.join(names[:elder])] * (elder > 0)
        lines = lines + ['die zz', 'die y']
        one = heap(names)
        turned = names[many // 2:] + names[:many // 2]
        other = heap(turned)
        ends = [tuple(sorted(pair)) for pair in zip(turned[many // 2:], turned[many // 2 + 1:])]
        with_y = tuple(sorted(one + tuple([(name, 'y') for name in names[:elder]])))
        left = [tie for tie in ends if tie not in one and tie not in other]
        now = set(other) | set(left[:extra])
        return played(lines, with_y, tuple(sorted(now))), len(now ^ set(one))

    def test_at_the_bound_and_beyond(self):
        for kind, elder, many, bound in (('web', 0, 9, 16), ('web', 0, 10, 16), ('web', 1, 33, 76), ('web', 1, 40, 76),
                                         ('web', 2, 70, 156), ('wood', 1, 11, 18), ('wood', 1, 12, 18)):
            seen = []
            for extra in range(many):
                (history, rows), found = self.turned(extra, elder, many)
                if found <= bound:
                    self.kept(history, rows, kind)
                elif found <= bound + 2:
                    self.broken(history, rows, kind, len(history) - 1, 'changes', (), found, bound)
                seen.append(found)
            self.assertIn(bound, seen)
            self.assertIn(bound + 1, seen)

    def test_at_the_death_of_a_lone_place(self):
        names = many_names(10)
        other = line([names[at] for at in (0, 1, 2, 3, 5, 7, 9, 4, 6, 8)])
        lines = star(names) + ['come y', 'die zz', 'die y']
        self.kept(*played(lines, line(names), other), 'wood')
        more = tuple(sorted([*other, (names[0], names[8])]))
        self.broken(*played(lines, line(names), more), 'wood', 13, 'changes', (), 13, 12)

    def bound_of(self, kind, elder, many):
        """The bound that is told when as much as possible changes."""
        (history, rows), found = self.turned(0, elder, many)
        return judged(history, rows, kind)[-1], found

    def test_bounds(self):
        self.assertEqual([self.bound_of('wood', elder, many)[0] for elder, many in ((0, 20), (1, 20))], [12, 18])
        self.assertEqual([self.bound_of('web', elder, many)[0] for elder, many in
                          ((0, 20), (1, 62), (1, 63), (1, 64), (2, 100))], [16, 76, 86, 86, 156])

    def test_ties_of_the_dead_do_not_count(self):
        names = many_names(40)
        history, rows = played(star(names) + ['die zz'], heap(names))
        self.kept(history, rows, 'web')
        self.kept(history, rows, 'wood')
        lone = History('come a\ncome b a\ndie a')
        self.kept(lone, ((), (('a', 'b'),), ()), 'wood')


class TestWhichIsFirst(Judges):

    def test_ties_ahead_of_ways(self):
        ends = 'bcdefgh'
        lines = star(ends) + ['come x', 'die zz']
        most = tuple([('c', name) for name in 'defgh'])
        self.broken(*played(lines, most + (('c', 'x'),)), 'web', 9, 'ties', ('c',), 6, 3)
        self.broken(*played(lines, (('b', 'x'),) + most[:3]), 'web', 9, 'ties', ('x',), 1, 0)
        self.broken(*played(lines, (('b', 'x'),) + most[:3]), 'wood', 9, 'parted', ('b', 'c'), None, None)

    def test_parted_ahead_of_joined(self):
        lines = star('cd') + ['come a', 'come b a', 'die zz']
        # a and b are tied in the elder web, c and d joined; now a and c are.
        self.broken(*played(lines, (('a', 'c'),)), 'web', 5, 'parted', ('a', 'b'), None, None)
        self.broken(*played(lines, (('a', 'b'), ('a', 'c'))), 'wood', 5, 'parted', ('c', 'd'), None, None)
        self.broken(*played(lines, (('a', 'b'), ('a', 'c'), ('c', 'd'))), 'wood', 5, 'joined', ('a', 'c'), None, None)

    def test_joined_and_parted_ahead_of_far(self):
        names = many_names(30)
        lines = star(names) + ['come y', 'come z y', 'die zz']
        self.broken(*played(lines, line(names) + (('y', 'z'),)), 'web', 33, 'far', ('aa', 'av'), 21, 20)
        self.broken(*played(lines, tuple(sorted(line(names) + (('bd', 'y'), ('y', 'z'))))), 'web',
                    33, 'joined', ('aa', 'y'), None, None)
        self.broken(*played(lines, line(names)), 'web', 33, 'parted', ('y', 'z'), None, None)
        self.broken(*played(lines, line(names[:29]) + (('y', 'z'),)), 'wood', 33, 'parted', ('aa', 'bd'), None, None)

    def test_far_ahead_of_changes(self):
        names = many_names(60)
        lines = star(names) + ['come y', 'die zz', 'die y']
        self.broken(*played(lines, heap(names), line(names)), 'web', 63, 'far', ('aa', 'az'), 25, 24)
        self.broken(*played(lines, heap(names), heap(names[30:] + names[:30])), 'web', 63, 'changes', (),
                    len(set(heap(names)) ^ set(heap(names[30:] + names[:30]))), 16)

    def test_first_of_several_deeds(self):
        lines = star('bcde') + ['die zz', 'die b', 'come f c', 'die c']
        history = History('\n'.join(lines))
        ahead = comings_of(lines[:5])
        good = (('b', 'c'), ('b', 'd'), ('c', 'e')), (('c', 'd'), ('c', 'e')), (('c', 'd'), ('c', 'e'), ('c', 'f'))
        for kind in KINDS:
            self.kept(history, ahead + good + ((('d', 'e'), ('d', 'f')),), kind)
            self.broken(history, ahead + good + ((),), kind, 8, 'parted', ('d', 'e'), None, None)
            self.broken(history, ahead + good[:2] + (good[1], ()), kind, 7, 'coming', ('c', 'f'), None, None)
            self.broken(history, ahead + (good[0], (), good[1], ()), kind, 6, 'parted', ('c', 'd'), None, None)
            self.broken(history, ahead + ((), (), (), ()), kind, 5, 'parted', ('b', 'c'), None, None)
            self.broken(history, ahead[:2] + ((),) * 7, kind, 2, 'coming', ('b', 'zz'), None, None)


class TestErrors(Judges):

    def test_bad_rows(self):
        for value in no_tuples() + [AHEAD, LINE + ((),), list(LINE), LINE[:4] + ([],), LINE[:4] + ((('a', 'b'),),),
                                    (), (True,) * 5, (1,) * 5, LINE[:4] + ((('b', 'c'), True),)]:
            for kind in ('web', 'wood', 'none', None):
                self.raises(BadRows, value, judged, STAR, value, kind)
        self.raises(BadRows, 3, judged, history=STAR, rows=3, kind=4)

    def test_bad_kind(self):
        for value in no_strings() + ['', 'Web', 'WOOD', 'webs', 'we', 'web ', 'kind', ('web',), ['wood']]:
            self.raises(BadKind, value, judged, STAR, LINE, value)
            self.raises(BadKind, value, judged, History('come a\ncome b\ncome c a b'), ((), (), ()), value)
        self.raises(BadKind, None, judged, history=STAR, rows=LINE, kind=None)

    def test_no_wood(self):
        history = History('come a\ncome b\ndie b\ncome c a\ncome d a c\ncome e a c\ndie e')
        rows = healed(history)
        self.kept(history, rows, 'web')
        self.raises(NotWood, 4, judged, history, rows, 'wood')
        self.raises(NotWood, 4, judged, history, ((),) * 7, 'wood')
        self.raises(BadRows, ((),), judged, history, ((),), 'wood')
        self.raises(BadKind, 'woods', judged, history, rows, 'woods')

    def test_nothing_is_changed(self):
        rows = [list(row) for row in LINE]
        self.raises(BadRows, rows, judged, STAR, rows, 'web')
        self.assertEqual((rows, STAR.text), ([list(row) for row in LINE], STAR.text))


class TestRandomRows(Judges):

    def compare(self, history, rows):
        """As the plain judge says, by both kinds; the words that were told."""
        self.assertTrue(is_rows(history, rows))
        words = []
        for kind in KINDS if is_wood_history(history) else ('web',):
            found = judged(history, rows, kind)
            self.assertEqual(found, plainly_judged(history.deeds, rows, kind), (history.text, rows, kind))
            words.append(found[2] if len(found) > 1 else 'kept')
        return words

    def test_small_histories(self):
        words = []
        for number in range(300):
            dice = dice_of(number)
            history = History('\n'.join(random_lines(dice, dice.choice([6, 12, 18]))))
            words.extend(self.compare(history, drawn_rows(dice, history)))
        self.assertLessEqual({'kept', 'coming', 'ties', 'parted', 'joined'}, set(words))

    def test_stars(self):
        words = []
        for number in range(60):
            dice = dice_of(number)
            names = many_names(dice.randint(3, 26))
            lines = star(names) + ['come y'] * dice.randint(0, 1) + ['die zz']
            lines += ['die ' + name for name in dice.sample(names, min(2, len(names)))]
            history = History('\n'.join(lines))
            words.extend(self.compare(history, drawn_rows(dice, history)))
        self.assertLessEqual({'kept', 'ties', 'far', 'changes'}, set(words))

    def test_healed_rows_with_one_tie_changed(self):
        for number in range(80):
            dice = dice_of(number)
            history = History('\n'.join(random_lines(dice, 16)))
            rows = list(healed_wood(history) if is_wood_history(history) else healed(history))
            at = dice.randrange(len(rows))
            living = Told(history.text.split('\n')[:at + 1]).living
            if len(living) > 1:
                rows[at] = tuple(sorted(set(rows[at]) ^ {tuple(sorted(dice.sample(living, 2)))}))
            self.compare(history, tuple(rows))

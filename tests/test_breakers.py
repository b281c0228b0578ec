"""breaker and shows_breaker, beside rules played and counted by the tests themselves."""

import unittest

from healedwebs.breakers import breaker, shows_breaker
from healedwebs.errors import BadKind, BadNumber, BadRule
from healedwebs.histories import History, first_deeds, led_on
from tests.drawn import drawn_histories, great_histories, shaped_histories
from tests.kinds import Raises, no_strings
from tests.plays import KINDS, NEVER, RULES, Play, behind, tops
from tests.shapes import line, name_of, ring, star
from tests.test_rules import NO_RULES

NO_KINDS = no_strings() + ['', 'More', 'mores', 'fa', 'part', 'change', 'none', 'line', 'ties', 'joined', 'web', 'wood',
                           'more ', ' far', ('more',), ['more'], {'far': 'far'}, ('more', 'far')]

NO_NUMBERS = no_strings() + ['', '0', '1', (0,), (1,), [1], -1, -40, 41, 42, 100, 10 ** 39]


def goals_of(kind):
    return [0] if kind == 'parted' else list(range(1, 41))


def all_asked():
    """Each rule with each kind and goal."""
    return [(rule, kind, goal) for rule in RULES for kind in KINDS for goal in goals_of(kind)]


def first_break(rule, kind, goal, history):
    """The number of the first deed behind which the model sees it come about, None if it never does."""
    play = Play(rule)
    for number, deed in enumerate(history.deeds):
        play.go_on(deed)
        # As long as nobody has died there is but one web.
        if len(play.beside) < len(play.elder) and play.comes_about(kind, goal):
            return number
    return None


class TestBreaker(unittest.TestCase, Raises):

    def test_each_breaks_its_rule(self):
        for rule, kind, goal in all_asked():
            if (rule, kind) not in NEVER:
                history = breaker(rule, kind, goal)
                self.assertIs(type(history), History)
                self.assertIsNotNone(first_break(rule, kind, goal, history), (rule, kind, goal))

    def test_none_where_nothing_breaks(self):
        for rule, kind, goal in all_asked():
            if (rule, kind) in NEVER:
                self.assertIsNone(breaker(rule, kind, goal))
            else:
                self.assertIsNotNone(breaker(rule, kind, goal))

    def test_how_long_they_are(self):
        for rule, kind, goal in all_asked():
            history = breaker(rule, kind, goal)
            if history is not None:
                self.assertLessEqual(len(history), 400)
                self.assertLessEqual(len(history.living) + len(history.dead), 200)
                self.assertEqual(History(history.text), history)

    def test_they_are_shown(self):
        for rule, kind, goal in all_asked():
            self.assertIs(shows_breaker(rule, kind, goal, breaker(rule, kind, goal)), True)

    def test_arguments_by_name_and_equal_calls(self):
        for rule, kind, goal in all_asked():
            if goal in (0, 1, 7, 40):
                history = breaker(rule, kind, goal)
                self.assertEqual(history, breaker(goal=goal, kind=kind, rule=rule))
                self.assertIs(shows_breaker(value=history, goal=goal, kind=kind, rule=rule), True)

    def test_what_never_breaks_never_does(self):
        """No history of the tests breaks by a kind for which None is told."""
        for histories in (shaped_histories(2), drawn_histories(150, 50000)):
            for history in histories:
                for rule in RULES:
                    found = tops(rule, history)
                    for kind in KINDS:
                        if (rule, kind) in NEVER:
                            # 0 times as many is not yet one of the goals, but for "parted".
                            self.assertLess(max(found[kind], default=-1),
                                            1 if kind in ('more', 'far', 'changes') else 0)


class TestBreakerErrors(unittest.TestCase, Raises):

    def both(self, error, value, rule, kind, goal):
        self.raises(error, value, breaker, rule, kind, goal)
        self.raises(error, value, breaker, goal=goal, kind=kind, rule=rule)
        for shown in (None, History(''), breaker('ring', 'more', 1), 5, []):
            self.raises(error, value, shows_breaker, rule, kind, goal, shown)
        self.raises(error, value, shows_breaker, value=None, goal=goal, kind=kind, rule=rule)

    def test_bad_rule(self):
        for value in NO_RULES:
            for kind, goal in (('more', 1), ('parted', 0), ('less', 1), (None, None), (['far'], [])):
                self.both(BadRule, value, value, kind, goal)

    def test_bad_kind(self):
        for value in NO_KINDS:
            for rule, goal in (('none', 1), ('all', 0), ('star', None), ('ring', 41), ('line', [])):
                self.both(BadKind, value, rule, value, goal)

    def test_bad_number(self):
        for rule in RULES:
            for kind in KINDS:
                for value in NO_NUMBERS:
                    if type(value) is int and value in goals_of(kind):
                        continue
                    self.both(BadNumber, value, rule, kind, value)

    def test_edges_of_goals(self):
        for rule in RULES:
            for kind in ('more', 'far', 'changes'):
                self.both(BadNumber, 0, rule, kind, 0)
                self.both(BadNumber, 41, rule, kind, 41)
                self.both(BadNumber, True, rule, kind, True)
                for goal in (1, 40):
                    self.assertEqual(breaker(rule, kind, goal) is None, (rule, kind) in NEVER)
            self.both(BadNumber, False, rule, 'parted', False)
            self.both(BadNumber, 1, rule, 'parted', 1)
            self.both(BadNumber, -1, rule, 'parted', -1)

    def test_several_wrong(self):
        self.both(BadRule, 'x', 'x', 'y', 'z')
        self.both(BadRule, True, True, False, True)
        self.both(BadKind, 'y', 'all', 'y', 'z')
        self.both(BadKind, [], 'none', [], [])
        self.both(BadNumber, 'z', 'all', 'more', 'z')


class TestShowsBreaker(unittest.TestCase, Raises):

    def told(self, rule, kind, goal, value, right):
        self.assertIs(shows_breaker(rule, kind, goal, value), right, (rule, kind, goal, getattr(value, 'text', value)))

    def beside_model(self, histories):
        for history in histories:
            for rule in RULES:
                for kind, found in tops(rule, history).items():
                    top = max(found, default=-1)
                    if kind == 'parted':
                        self.told(rule, kind, 0, history, top == 0)
                    else:
                        for goal in {1, 2, 40, max(1, min(top, 40)), max(1, min(top + 1, 40))}:
                            self.told(rule, kind, goal, history, (rule, kind) not in NEVER and goal <= top)

    def test_shapes(self):
        self.beside_model(shaped_histories())

    def test_drawn(self):
        self.beside_model(drawn_histories(400, 60000))

    def test_wide_stars_and_rings(self):
        """There the goals of up to 40 are come by, and just not."""
        for many in (41, 42, 43, 82, 83, 84):
            names = [name_of(number) for number in range(many + 1)]
            self.beside_model([behind(star(many), names[:2]), behind(ring(many), names[:1])])

    def test_great(self):
        for history in great_histories():
            for rule, kind, goal in (('line', 'more', 1), ('ring', 'changes', 1), ('least', 'more', 3),
                                     ('all', 'more', 3), ('none', 'parted', 0)):
                self.told(rule, kind, goal, history, first_break(rule, kind, goal, history) is not None)

    def test_each_number_of_deeds(self):
        """What breaks behind a deed breaks it for ever, and not ahead of that."""
        for history in [*shaped_histories(0), *drawn_histories(40, 70000)]:
            for rule in RULES:
                found = tops(rule, history)
                for kind, goal in (('more', 1), ('far', 1), ('parted', 0), ('changes', 1)):
                    if (rule, kind) not in NEVER:
                        for many in range(0, len(history) + 1, 3):
                            self.told(rule, kind, goal, first_deeds(history, many),
                                      max(found[kind][:many], default=-1) >= goal)

    def test_behind_a_deed_in_the_midst_alone(self):
        many = 0
        for history in [*shaped_histories(), *drawn_histories(100, 80000)]:
            for rule in RULES:
                for kind, found in tops(rule, history).items():
                    goal = 0 if kind == 'parted' else 1
                    numbers = [number for number, top in enumerate(found) if top >= goal]
                    if len(numbers) == 1 and numbers[0] + 1 < len(history):
                        many += 1
                        self.told(rule, kind, goal, history, True)
                        self.told(rule, kind, goal, first_deeds(history, numbers[0]), False)
                        self.told(rule, kind, goal, first_deeds(history, numbers[0] + 1), True)
        self.assertGreater(many, 50)

    def test_more(self):
        star_of_six = behind(star(6), [name_of(0)])
        for rule, top in (('star', 3), ('least', 3), ('all', 3), ('ring', 0), ('line', 0)):
            for goal in (1, 2, 3, 4, 5, 6, 40):
                # Who is tied to all five others had one elder tie.
                self.told(rule, 'more', goal, star_of_six, goal <= top)

    def test_far(self):
        # Behind the death of the middle 8 ends stand in a line, or in a ring.
        star_of_eight = behind(star(8), [name_of(0)])
        for goal in (1, 2, 3, 4, 40):
            self.told('line', 'far', goal, star_of_eight, goal <= 3)
            self.told('ring', 'far', goal, star_of_eight, goal <= 1)
        # Of nine places in a ring one dies: those beside it are seven apart, and two in the elder web.
        lacking = behind(ring(9), [name_of(4)])
        for goal in (1, 2, 3, 4, 40):
            self.told('none', 'far', goal, lacking, goal <= 3)
            self.told('line', 'far', goal, lacking, False)

    def test_just_as_far_as_the_goal(self):
        # Of five ends in a line the outer ones are 4 apart, just twice as far as in the elder web.
        self.told('line', 'far', 1, behind(star(5), [name_of(0)]), True)
        self.told('line', 'far', 2, behind(star(5), [name_of(0)]), False)
        self.told('line', 'far', 2, behind(star(6), [name_of(0)]), True)

    def test_joined_anew_by_a_coming(self):
        """By "none" a coming may join, along a long way, whom a dead place had joined."""
        history = History('come a\ncome m a\ncome b m\ndie m\ncome c a\ncome d c\ncome e d')
        self.told('none', 'far', 1, history, False)
        history = led_on(history, ('come', 'f', ('b', 'e')))
        self.told('none', 'far', 1, history, True)
        self.told('none', 'far', 2, history, True)
        self.told('none', 'far', 3, history, False)
        self.told('line', 'far', 1, history, False)
        self.told('none', 'far', 2, led_on(history, ('die', 'd')), True)

    def test_parted_while_a_way_is_lacking(self):
        history = History('come a\ncome m a\ncome b m\ndie m')
        for rule in RULES:
            self.told(rule, 'parted', 0, history, rule == 'none')
            # Later joined again, and the last of them dead.
            self.told(rule, 'parted', 0, History(history.text + '\ncome c a b\ndie a\ndie b'), rule == 'none')
            self.told(rule, 'parted', 0, History('come a\ncome m a\ncome b m\ndie a'), False)
            self.told(rule, 'parted', 0, History('come a\ncome b\ncome c'), False)

    def test_changes(self):
        star_of_six = behind(star(6), [name_of(0)])
        # 15 ties are put in by "all", of a place that had 6.
        for goal in (1, 2, 3, 40):
            self.told('all', 'changes', goal, star_of_six, goal <= 2)
        for rule in ('none', 'line', 'ring', 'star', 'least'):
            self.told(rule, 'changes', 1, star_of_six, False)
        # Behind the first end, which has five ties by "star" and had one, four are put in.
        star_of_six = behind(star(6), [name_of(0), min([name_of(number) for number in range(1, 7)])])
        for goal in (1, 3, 4, 40):
            self.told('star', 'changes', goal, star_of_six, goal <= 3)

    def test_just_as_many_ties_as_the_goal_tells(self):
        """Of a star of three ends "all" and "ring" put three in, no more than its middle had."""
        self.told('all', 'changes', 1, behind(star(3), [name_of(0)]), False)
        self.told('ring', 'changes', 1, behind(star(3), [name_of(0)]), False)
        self.told('all', 'changes', 1, behind(star(4), [name_of(0)]), True)
        self.told('all', 'changes', 1, behind(line(3), [name_of(1)]), False)

    def test_none(self):
        for rule, kind, goal in all_asked():
            self.told(rule, kind, goal, None, (rule, kind) in NEVER)

    def test_no_history(self):
        some = breaker('ring', 'more', 1)
        for value in [*no_strings(), '', some.text, some.deeds, (some,), [some], {'a': some}, 'none', (None,),
                      some.text.split()]:
            if value is not None and not isinstance(value, History):
                for rule in RULES:
                    for kind in KINDS:
                        self.told(rule, kind, 0 if kind == 'parted' else 1, value, False)

    def test_histories_where_none_is_right(self):
        for rule, kind in NEVER:
            for other in RULES:
                for turn in KINDS:
                    self.told(rule, kind, 0 if kind == 'parted' else 1,
                              breaker(other, turn, 0 if turn == 'parted' else 9) or
                              History('come a'), False)

    def test_those_without_deaths(self):
        for history in (History(''), History('come a'), behind(star(50), []), behind(ring(50), [])):
            for rule, kind, goal in all_asked():
                if goal in (0, 1, 40):
                    self.told(rule, kind, goal, history, False)

    def test_nothing_is_changed(self):
        history = breaker('line', 'more', 3)
        text, deeds = history.text, history.deeds
        for _ in range(2):
            for rule, kind, goal in all_asked():
                if goal in (0, 3):
                    self.assertEqual(shows_breaker(rule, kind, goal, history),
                                     shows_breaker(rule, kind, goal, History(text)))
        self.assertEqual((history.text, history.deeds), (text, deeds))

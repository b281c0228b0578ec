"""Trees for limits, tree_room, web_floor, and what any healer owes."""

import unittest

from healedwebs.errors import BadLimits, BadNumber, NotTree, NoTree
from healedwebs.healer import healed
from healedwebs.histories import elder_ties
from healedwebs.rules import played_by
from healedwebs.stars import is_tree_for, least_far, tree_farthest, tree_room, web_floor
from healedwebs.webs import Web, farthest, parts_of, ties_of, web_of
from healedwebs.wills import healed_wood
from tests.kinds import Raises, no_strings, no_tuples
from tests.models import dice_of, random_web
from tests.plays import RULES, behind
from tests.shapes import name_of, star
from tests.test_least_far import NO_LIMITS
from tests.trees import all_trees, drawn_limits, drawn_tree, ends_of, is_plain_tree, plain_farthest

NO_INTEGERS = [value for value in no_strings() if type(value) is not int] + ['', '1', (1,), [1], '0']


class TestTrees(unittest.TestCase, Raises):

    def told(self, limits, value, right):
        self.assertIs(is_tree_for(limits, value), right, (limits, value))
        if right:
            self.assertEqual(tree_farthest(limits, value), plain_farthest(len(limits), value))
        else:
            self.raises(NotTree, value, tree_farthest, limits, value)

    def test_limits_at_the_edges(self):
        self.told((0,), (), True)
        self.told((200,), (), True)
        self.told((1,) * 200, (), False)
        self.told((200,) * 200, tuple([(0, place) for place in range(1, 200)]), True)
        self.told((199,) + (1,) * 199, tuple([(0, place) for place in range(1, 200)]), True)
        self.told((198,) + (1,) * 199, tuple([(0, place) for place in range(1, 200)]), False)
        self.told((2,) * 200, tuple([(place, place + 1) for place in range(199)]), True)
        self.told((0, 0), (), False)
        self.told((0, 1), ((0, 1),), False)
        self.told((1, 0), ((0, 1),), False)
        self.told((1, 1), ((0, 1),), True)

    def test_bad_limits(self):
        for value in NO_LIMITS:
            for ties in ((), ((0, 1),), None, value):
                self.raises(BadLimits, value, is_tree_for, value, ties)
                self.raises(BadLimits, value, tree_farthest, value, ties)
        self.raises(BadLimits, [], is_tree_for, limits=[], value=())
        self.raises(BadLimits, [], tree_farthest, ties=(), limits=[])

    def test_arguments_by_name(self):
        self.assertIs(is_tree_for(value=((0, 1),), limits=(1, 1)), True)
        self.assertEqual(tree_farthest(ties=((0, 1),), limits=(1, 1)), 1)
        self.raises(NotTree, ((0, 2),), tree_farthest, ties=((0, 2),), limits=(1, 1))

    def test_too_few_and_too_many_ties(self):
        limits = (3, 3, 3, 3)
        self.told(limits, ((0, 1), (0, 2), (0, 3)), True)
        self.told(limits, ((0, 1), (0, 2)), False)
        self.told(limits, ((0, 1), (0, 2), (0, 3), (1, 2)), False)
        self.told(limits, (), False)
        self.told((3,), ((0, 1),), False)

    def test_a_tie_twice(self):
        self.told((3, 3, 3), ((0, 1), (0, 1)), False)
        self.told((3, 3, 3), ((0, 1), (0, 1), (0, 2)), False)
        self.told((3, 3, 3, 3), ((0, 1), (0, 2), (0, 2)), False)
        self.told((3, 3, 3, 3), ((0, 1), (0, 2), (0, 2), (0, 3)), False)

    def test_ties_turned_about(self):
        self.told((3, 3), ((1, 0),), False)
        self.told((3, 3, 3), ((0, 1), (2, 0)), False)
        self.told((3, 3, 3), ((0, 2), (1, 0)), False)

    def test_not_ascending(self):
        self.told((3, 3, 3), ((0, 1), (0, 2)), True)
        self.told((3, 3, 3), ((0, 2), (0, 1)), False)
        self.told((3, 3, 3), ((0, 1), (1, 2)), True)
        self.told((3, 3, 3), ((1, 2), (0, 1)), False)

    def test_ties_with_themselves(self):
        self.told((3, 3), ((0, 0),), False)
        self.told((3, 3), ((1, 1),), False)
        self.told((3, 3, 3), ((0, 1), (2, 2)), False)
        self.told((3,), ((0, 0),), False)

    def test_places_that_are_none(self):
        for tie in ((0, 2), (0, -1), (-1, 0), (-1, 1), (2, 3), (0, 10 ** 39), (1, 2)):
            self.told((3, 3), (tie,), False)
            self.told((3, 3), tie, False)
        self.told((3, 3, 3), ((0, 1), (1, 3)), False)

    def test_a_ring_beside_a_place_that_is_not_joined(self):
        self.told((3, 3, 3, 3), ((0, 1), (0, 2), (1, 2)), False)
        self.told((3, 3, 3, 3), ((1, 2), (1, 3), (2, 3)), False)
        self.told((3,) * 6, ((0, 1), (0, 2), (1, 2), (3, 4), (4, 5)), False)
        self.told((3,) * 6, ((0, 1), (1, 2), (2, 3), (3, 4), (4, 5)), True)

    def test_lists_in_the_place_of_tuples(self):
        self.told((1, 1), [(0, 1)], False)
        self.told((1, 1), ([0, 1],), False)
        self.told((2, 1, 1), ((0, 1), [0, 2]), False)
        self.told((1,), [], False)

    def test_true_and_false_as_places(self):
        self.told((1, 1), ((0, True),), False)
        self.told((1, 1), ((False, 1),), False)
        self.told((1, 1), ((False, True),), False)
        self.told((1, 2, 1), ((0, 1), (True, 2)), False)

    def test_one_place_alone(self):
        self.assertEqual([tree_farthest((limit,), ()) for limit in (0, 1, 2, 200)], [0] * 4)
        for value in no_tuples() + [((),), ((0,),), (0,), (0, 0), (None,)]:
            self.told((5,), value, False)

    def test_other_kinds_of_values(self):
        for value in no_tuples() + [(None,), (0, 1), ('01',), ((0, 1, 1),), ((0,),), ((),), (('0', '1'),), (((0, 1),),),
                                    ((0, None),), ((None, 1),), (([0], 1),), ((0, (1,)),), ({0: 1},), (Web('places'),),
                                    ((0, Web('places')),), (('a', 'b'),), ((0, 1), None), (None, (0, 1)), ((0, {}),)]:
            for limits in ((1, 1), (2, 2, 2), (3,)):
                self.told(limits, value, False)

    def test_more_ties_than_the_limit(self):
        self.told((2, 2, 1), ((0, 1), (0, 2)), True)
        self.told((1, 2, 1), ((0, 1), (0, 2)), False)
        self.told((1, 2, 1), ((0, 1), (1, 2)), True)
        self.told((2, 1, 1, 1), ((0, 1), (0, 2), (0, 3)), False)
        self.told((200, 0, 1), ((0, 1), (0, 2)), False)

    def test_all_trees_of_up_to_six_places(self):
        for many in range(1, 7):
            for ties in all_trees(many):
                ends = tuple(ends_of(many, ties))
                self.told(ends, ties, True)
                self.told(tuple([end + 1 for end in ends]), ties, True)
                for place in range(many):
                    self.told(ends[:place] + (max(0, ends[place] - 1),) + ends[place + 1:], ties, many == 1)

    def test_drawn_ties(self):
        for number in range(400):
            dice = dice_of(number)
            limits = drawn_limits(dice, 50)
            many = len(limits)
            ties = drawn_tree(dice, limits)
            self.told(limits, ties, True)
            if many > 2:
                at = dice.randrange(many - 1)
                other = tuple(sorted(dice.sample(range(many), 2)))
                changed = tuple(sorted(ties[:at] + (other,) + ties[at + 1:]))
                self.told(limits, changed, is_plain_tree(limits, changed))


def room_in_layers(far, most):
    """The places of a tree, layer by layer: around one place, or around two that are tied."""
    layer = 1 if far % 2 == 0 else 2
    total = layer
    below = most if far % 2 == 0 else most - 1
    for _ in range(far // 2):
        layer *= below
        total += layer
        below = most - 1
    return total


class TestTreeRoom(unittest.TestCase, Raises):

    def test_all(self):
        for far in range(41):
            for most in range(1, 201):
                found = tree_room(far, most)
                self.assertIs(type(found), int)
                self.assertEqual(found, room_in_layers(far, most), (far, most))

    def test_edges(self):
        self.assertEqual([tree_room(0, most) for most in (1, 2, 200)], [1, 1, 1])
        self.assertEqual([tree_room(1, most) for most in (1, 2, 200)], [2, 2, 2])
        self.assertEqual([tree_room(2, most) for most in (1, 2, 200)], [2, 3, 201])
        self.assertEqual([tree_room(3, most) for most in (1, 2, 200)], [2, 4, 400])
        self.assertEqual([tree_room(40, most) for most in (1, 2)], [2, 41])
        self.assertEqual(tree_room(40, 3), 1 + 3 * (2 ** 20 - 1))
        self.assertEqual(tree_room(39, 3), 2 * (2 ** 20 - 1))
        self.assertEqual(tree_room(most=200, far=40), 1 + 200 * sum([199 ** step for step in range(20)]))
        self.assertEqual(tree_room(far=39, most=200), 2 * sum([199 ** step for step in range(20)]))

    def test_beside_least_far(self):
        """As many places as there is room for are as far apart, and one more is farther."""
        for far in range(12):
            for most in (1, 2, 3, 4, 5, 8, 14):
                many = tree_room(far, most)
                if many <= 200:
                    self.assertLessEqual(least_far((most,) * many)[0], far)
                if many < 200 and most > 1:
                    self.assertGreater(least_far((most,) * (many + 1))[0], far)

    def test_beside_all_trees(self):
        for many in range(1, 7):
            for ties in all_trees(many):
                self.assertLessEqual(many, tree_room(plain_farthest(many, ties), max(1, *ends_of(many, ties), 1)))

    def test_errors(self):
        for value in NO_INTEGERS + [-1, 41, 10 ** 39, -10 ** 39]:
            for most in (1, 200, 0, None, value):
                self.raises(BadNumber, value, tree_room, value, most)
        for value in NO_INTEGERS + [0, -1, 201, 10 ** 39]:
            for far in (0, 40):
                self.raises(BadNumber, value, tree_room, far, value)
                self.raises(BadNumber, value, tree_room, most=value, far=far)
        self.raises(BadNumber, True, tree_room, True, True)
        self.raises(BadNumber, True, tree_room, 1, True)
        self.raises(BadNumber, False, tree_room, False, 0)
        self.raises(BadNumber, -1, tree_room, -1, 201)


class TestWebFloor(unittest.TestCase, Raises):

    def sum_for(self, far, most):
        return 1 + most * sum([(most - 1) ** step for step in range(far)])

    def test_least_number(self):
        for most in (2, 3, 4, 5, 10, 199, 200):
            for many in [*range(1, 250), 999, 1000, 1001, 39801, 39802, 999999, 1000000]:
                found = web_floor(many, most)
                self.assertIs(type(found), int)
                if most == 2:
                    self.assertEqual(found, many // 2)
                else:
                    self.assertGreaterEqual(self.sum_for(found, most), many)
                    self.assertTrue(found == 0 or self.sum_for(found - 1, most) < many)

    def test_just_as_many(self):
        for most in range(3, 201):
            far = 0
            while self.sum_for(far, most) <= 1000000:
                many = self.sum_for(far, most)
                self.assertEqual(web_floor(many, most), far)
                if many < 1000000:
                    self.assertEqual(web_floor(many + 1, most), far + 1)
                far += 1

    def test_edges(self):
        self.assertEqual([web_floor(1, most) for most in (1, 2, 3, 200)], [0] * 4)
        self.assertEqual([web_floor(2, most) for most in (1, 2, 3, 200)], [1] * 4)
        self.assertEqual([web_floor(3, most) for most in (2, 3, 200)], [1] * 3)
        self.assertEqual([web_floor(1000000, most) for most in (2, 3, 200)], [500000, 19, 3])
        self.assertEqual(web_floor(most=2, many=999999), 499999)
        self.assertEqual([web_floor(201, 200), web_floor(202, 200), web_floor(40001, 200), web_floor(40002, 200)],
                         [1, 2, 2, 3])

    def test_no_tree(self):
        for many in (3, 4, 1000000):
            self.raises(NoTree, 1, web_floor, many, 1)
            self.raises(NoTree, 1, web_floor, most=1, many=many)
        self.assertEqual([web_floor(1, 1), web_floor(2, 1)], [0, 1])

    def test_errors(self):
        for value in NO_INTEGERS + [0, -1, 1000001, 10 ** 39]:
            for most in (1, 2, 200, 0, 201, None):
                self.raises(BadNumber, value, web_floor, value, most)
        for value in NO_INTEGERS + [0, -1, 201, 10 ** 39]:
            for many in (1, 3, 1000000):
                self.raises(BadNumber, value, web_floor, many, value)
        self.raises(BadNumber, True, web_floor, 1, True)
        self.raises(BadNumber, True, web_floor, True, 1)
        self.raises(BadNumber, True, web_floor, 3, True)

    def test_webs_are_as_far_at_least(self):
        for number in range(500):
            web = web_of(*random_web(dice_of(number)))
            for part in parts_of(web):
                if len(part) > 1:
                    most = max([len(ties_of(web, name)) for name in part])
                    inner = web_of(part, tuple([tie for tie in web.ties if tie[0] in part]))
                    for bound in (most, most + 1, 200):
                        self.assertGreaterEqual(farthest(inner)[0], web_floor(len(part), bound))


class TestWhatIsOwed(unittest.TestCase):

    def test_stars_whose_middle_dies(self):
        for ends in range(2, 61):
            history = behind(star(ends), [name_of(0)])
            rows = [healed(history), healed_wood(history)]
            rows.extend([played_by(rule, history) for rule in RULES if rule != 'none'])
            for row in [each[-1] for each in rows]:
                web = web_of(history.living, row)
                self.assertEqual(len(parts_of(web)), 1)
                most = max([len(ties_of(web, name)) for name in web.places])
                for bound in range(most, 201, 20):
                    self.assertGreaterEqual(farthest(web)[0], web_floor(ends, bound))

    def test_healers_pay_hardly_more(self):
        """With three, and with four, ties each the ends are joined as section 7 and section 8 tell."""
        for ends in range(2, 61):
            history = behind(star(ends), [name_of(0)])
            for rows, most, bound in ((healed(history), 3, 4 * ends.bit_length()),
                                      (healed_wood(history), 4, 2 + 2 * ends.bit_length())):
                web = web_of(history.living, rows[-1])
                self.assertLessEqual(max([len(ties_of(web, name)) for name in web.places]), most)
                self.assertTrue(web_floor(ends, most) <= farthest(web)[0] <= bound)

    def test_the_histories_are_stars(self):
        for ends in (2, 60):
            history = behind(star(ends), [name_of(0)])
            self.assertEqual((len(history), len(history.living), history.dead), (ends + 2, ends, (name_of(0),)))
            self.assertEqual(elder_ties(history, name_of(0)), ends)

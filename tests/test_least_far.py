"""least_far and shows_least_far: beside all trees, and beside trees that the tests find by other ways."""

import itertools
import unittest

from healedwebs.errors import BadLimits, NoTree
from healedwebs.histories import History
from healedwebs.stars import is_tree_for, least_far, shows_least_far, tree_farthest
from healedwebs.webs import Web
from tests.kinds import Raises, no_tuples, raised
from tests.models import dice_of
from tests.trees import (all_trees, drawn_limits, drawn_tree, ends_of, height_from, is_plain_tree, layered_least,
                         plain_farthest)

NO_LIMITS = no_tuples() + [(), [1, 1], [2], (1,) * 201, (-1,), (1, 1, -1), (201,), (1, 201), (200, 201, 200), (True,),
                           (1, True), (False,), (2, False, 1, 1), (None,), ('1',), (1, '1'), ('a', 'b'), ((1,),),
                           ((1, 1),), ([1],), (1, [1]), ({},), (1, None), (1, 10 ** 39), (Web('places'),),
                           (1, History('')), 1, '11']


def needed(limits):
    """The least farthest for these limits by all trees that there are, None if there is none."""
    return min([far for ends, far in EACH[len(limits)].items()
                if all(end <= limit for end, limit in zip(ends, limits))], default=None)


def table_of(many):
    """For each way to share the ties among so many places the least farthest of all trees."""
    table = {}
    for ties in all_trees(many):
        ends = tuple(ends_of(many, ties))
        table[ends] = min(table.get(ends, many), plain_farthest(many, ties))
    return table


EACH = {many: table_of(many) for many in range(1, 7)}


class TestLeastFar(unittest.TestCase, Raises):

    def right(self, limits, told):
        """The very farthest, of ties that are a tree with it."""
        found = least_far(limits)
        self.assertIs(type(found), tuple)
        far, ties = found
        self.assertIs(type(far), int)
        self.assertEqual(far, told, limits)
        self.assertEqual([type(ties), *[type(tie) for tie in ties]], [tuple] * (1 + len(ties)))
        self.assertTrue(is_plain_tree(limits, ties), limits)
        self.assertTrue(all(type(place) is int for tie in ties for place in tie))
        if ties:
            self.assertEqual(height_from(len(limits), ties, max(range(len(limits)), key=lambda place: height_from(
                len(limits), ties, place))), far)
        return ties

    def test_all_limits_of_up_to_five_places(self):
        for many in range(1, 6):
            for limits in itertools.product(range(7), repeat=many):
                self.one_of_all(limits, needed(limits))

    def test_all_limits_of_six_places(self):
        told = {limits: needed(limits) for limits in itertools.combinations_with_replacement(range(7), 6)}
        for limits in itertools.product(range(7), repeat=6):
            self.one_of_all(limits, told[tuple(sorted(limits))])

    def one_of_all(self, limits, told):
        if told is None:
            self.assertEqual(raised(least_far, limits), (NoTree, limits))
        else:
            far, ties = least_far(limits)
            self.assertEqual(far, told, limits)
            self.assertTrue(is_plain_tree(limits, ties) and plain_farthest(len(limits), ties) == told, limits)

    def test_there_is_a_tree_exactly_if_there_is_room(self):
        for many in range(1, 7):
            for limits in itertools.combinations_with_replacement(range(7), many):
                room = many == 1 or (0 not in limits and sum(limits) >= 2 * (many - 1))
                self.assertEqual(needed(limits) is not None, room)
                self.assertEqual(raised(least_far, limits) is None, room)

    def test_drawn_limits(self):
        for number in range(250):
            dice = dice_of(number)
            limits = drawn_limits(dice)
            ties = self.right(limits, layered_least(limits))
            for _ in range(6):
                other = drawn_tree(dice, limits)
                self.assertTrue(is_plain_tree(limits, other))
                self.assertGreaterEqual(tree_farthest(limits, other), least_far(limits)[0])
            self.assertIs(shows_least_far(limits, (layered_least(limits), ties)), True)

    def test_one_place(self):
        for limit in (0, 1, 2, 200):
            self.assertEqual(least_far((limit,)), (0, ()))

    def test_two_places(self):
        for limits in ((1, 1), (1, 200), (200, 1), (2, 2)):
            self.assertEqual(least_far(limits), (1, ((0, 1),)))

    def test_just_room_enough(self):
        for many in (3, 4, 10, 50, 200):
            line = (2,) * (many - 2) + (1, 1)
            self.right(line, many - 1)
            self.right((1,) + (2,) * (many - 2) + (1,), many - 1)
            self.right((many - 1,) + (1,) * (many - 1), 2)
            self.right((1,) * (many - 1) + (many - 1,), 2)
            for limits in (line[:-3] + (1, 1, 1), (many - 2,) + (1,) * (many - 1), (1,) * many):
                self.assertEqual(sum(limits) < 2 * (many - 1), True)
                self.raises(NoTree, limits, least_far, limits)

    def test_one_less_than_enough(self):
        for number in range(200):
            dice = dice_of(number)
            limits = list(drawn_limits(dice, 60))
            many = len(limits)
            if many < 3:
                continue
            while sum(limits) > 2 * (many - 1):
                place = dice.randrange(many)
                limits[place] -= limits[place] > 1
            self.assertEqual(sum(limits), 2 * (many - 1))
            self.right(tuple(limits), layered_least(limits))
            place = max(range(many), key=lambda at: limits[at])
            limits[place] -= 1
            self.raises(NoTree, tuple(limits), least_far, tuple(limits))

    def test_a_place_without_ties(self):
        for limits in ((0, 1), (1, 0), (0, 0), (200, 200, 0), (0, 200, 200), (200,) * 199 + (0,)):
            self.raises(NoTree, limits, least_far, limits)
            self.raises(NoTree, limits, shows_least_far, limits, None)

    def test_many_places_with_few_ties(self):
        self.right((2,) * 200, 199)
        self.right((3,) * 190, 12)
        self.right((3,) * 191, 13)
        self.right((3,) * 200, 13)
        for limits in ((1, 3) * 100, (1,) * 101 + (3,) * 99, (1,) * 133 + (4,) * 67, (2, 1, 3) * 66, (4, 1, 1) * 60):
            self.right(limits, layered_least(limits))
        self.right((4,) * 161, 8)
        self.right((4,) * 162, 9)
        self.right((3,) * 94, 10)
        self.right((3,) * 95, 11)
        self.right((3,) * 126, 11)
        self.right((3,) * 127, 12)

    def test_one_great_limit(self):
        self.right((200,) + (2,) * 199, 2)
        self.right((2,) * 199 + (200,), 2)
        self.right((100,) + (2,) * 199, 4)
        self.right((50,) + (2,) * 199, 8)
        self.right((199,) + (1,) * 199, 2)
        self.right((150,) + (1,) * 150 + (2,) * 49, 4)

    def test_equal_calls(self):
        for number in range(30):
            limits = drawn_limits(dice_of(number), 40)
            self.assertEqual(least_far(limits), least_far(limits=tuple(list(limits))))

    def test_bad_limits(self):
        for value in NO_LIMITS:
            self.raises(BadLimits, value, least_far, value)
            self.raises(BadLimits, value, least_far, limits=value)
            for shown in (None, (0, ()), value):
                self.raises(BadLimits, value, shows_least_far, value, shown)
            self.raises(BadLimits, value, shows_least_far, value=(1, ((0, 1),)), limits=value)


class TestShowsLeastFar(unittest.TestCase, Raises):

    def told(self, limits, value, right):
        self.assertIs(shows_least_far(limits, value), right, (limits, value))

    def test_arguments_by_name(self):
        self.assertIs(shows_least_far(value=(1, ((0, 1),)), limits=(1, 1)), True)
        self.assertIs(shows_least_far(value=(2, ((0, 1),)), limits=(1, 1)), False)

    def test_all_trees_of_up_to_six_places(self):
        for many in range(1, 7):
            trees = list(all_trees(many))
            mixed = (3, 1) * (many // 2) + (2,) * (many - many // 2 * 2)
            for limits in ((2,) * many, (3,) * many, (6,) * many, (1,) + (4,) * (many - 1), mixed,
                           (5,) + (2,) * (many - 1)):
                least = needed(limits)
                if least is None:
                    continue
                for ties in trees:
                    far = plain_farthest(many, ties)
                    right = is_plain_tree(limits, ties) and far == least
                    self.told(limits, (far, ties), right)
                    self.told(limits, (least, ties), right)
                    self.told(limits, (far + 1, ties), False)
                    self.told(limits, (far - 1, ties), False)

    def test_what_least_far_returns(self):
        for number in range(150):
            limits = drawn_limits(dice_of(number), 120)
            far, ties = least_far(limits)
            self.told(limits, (far, ties), True)
            for value in ((far + 1, ties), (far - 1, ties), [far, ties], (far, list(ties)), (far,), (ties, far), far,
                          ties, (far, ties, ties), (str(far), ties), (far, tuple([list(tie) for tie in ties]) + ((),)),
                          (far, ties + ties[-1:]) if ties else (far, ((0, 1),)), ((far, ties),), None, {far: ties},
                          (None, ties), (far, None), (far, far)):
                self.told(limits, value, False)
            if len(ties) > 1:
                self.told(limits, (far, ties[::-1]), False)
                self.told(limits, (far, ties[1:]), False)
                self.told(limits, (far, tuple([tie[::-1] for tie in ties])), False)
                self.told(limits, (far, tuple([list(tie) for tie in ties])), False)

    def test_farther_trees(self):
        self.told((2, 2, 2, 2), (3, ((0, 1), (0, 2), (1, 3))), True)
        self.told((3, 2, 2, 2), (3, ((0, 1), (0, 2), (1, 3))), False)
        self.told((3, 2, 2, 2), (2, ((0, 1), (0, 2), (1, 3))), False)
        self.told((3, 2, 2, 2), (2, ((0, 1), (0, 2), (0, 3))), True)
        for number in range(150):
            dice = dice_of(number)
            limits = drawn_limits(dice, 60)
            ties = drawn_tree(dice, limits)
            far, least = plain_farthest(len(limits), ties), layered_least(limits)
            self.told(limits, (far, ties), far == least)
            self.told(limits, (least, ties), far == least)

    def test_true_and_false(self):
        self.told((1, 1), (1, ((0, 1),)), True)
        self.told((1, 1), (True, ((0, 1),)), False)
        self.told((1, 1), (1, ((False, True),)), False)
        self.told((1, 1), (1, ((0, True),)), False)
        self.told((5,), (0, ()), True)
        self.told((5,), (False, ()), False)

    def test_other_kinds_of_values(self):
        for value in no_tuples() + [(), (0,), ((), 0), (0, [], ()), (0, []), (0, {}), (0, ''), (0, None), (None, ()),
                                    (Web('places'), ()), (0, Web('places')), ((0,), ()), ([0], ()), ('0', ()),
                                    (0, ((),))]:
            self.told((5,), value, False)
            self.told((1, 1), value, False)

    def test_no_tree(self):
        for limits in ((1, 1, 1), (0, 1), (2, 2, 0), (1,) * 200, (2, 1, 1, 1)):
            for value in (None, (0, ()), (1, ((0, 1),)), []):
                self.raises(NoTree, limits, shows_least_far, limits, value)

"""The errors: what each derives from, what it keeps, what it does not catch."""

import inspect
import unittest

from healedwebs import errors
from healedwebs.histories import History
from healedwebs.webs import Web
from tests.kinds import no_names

NAMES = '''BadWeb BadPlaces BadTies BadPlace NoPlaces BadHistory BadDeed BadNumber NoPlace BadRows
BadKind NotWood BadName Held TooMany BadRule BadLimits NotTree NoTree NoThing WrongKind BadPlay
NothingToUndo NothingToRedo NoNote BadDesk'''.split()

OTHERS = [getattr(errors, name) for name in NAMES]


class TestErrors(unittest.TestCase):

    def test_there_are_these_and_no_more(self):
        classes = [name for name, value in vars(errors).items() if inspect.isclass(value)]
        self.assertEqual(sorted(classes), sorted([*NAMES, 'HealError']))
        self.assertEqual(len(NAMES), 26)

    def test_heal_error_derives_from_value_error(self):
        self.assertEqual(errors.HealError.__bases__, (ValueError,))

    def test_all_others_derive_directly_from_heal_error(self):
        for error in OTHERS:
            self.assertEqual(error.__bases__, (errors.HealError,), error)

    def test_each_keeps_any_value(self):
        values = [*no_names(), 'a', ('come', 'a', ()), [1, [2, [3]]], {'a': {}}, b'', object()]
        for error in [errors.HealError, *OTHERS]:
            for value in values:
                self.assertIs(error(value).value, value, error)

    def test_each_keeps_a_value_that_may_change(self):
        rows = [1]
        error = errors.BadRows(rows)
        rows.append(2)
        self.assertIs(error.value, rows)

    def test_each_takes_just_one_value(self):
        for error in [errors.HealError, *OTHERS]:
            self.assertRaises(TypeError, error)
            self.assertRaises(TypeError, error, 1, 2)

    def test_each_is_caught_by_its_own_and_by_those_above(self):
        for error in OTHERS:
            for above in (error, errors.HealError, ValueError):
                with self.assertRaises(above) as caught:
                    raise error(Web('places a'))
                self.assertIs(type(caught.exception), error)
                self.assertEqual(caught.exception.value, Web('places a'))

    def test_none_is_caught_by_another_one(self):
        for error in OTHERS:
            for other in OTHERS:
                self.assertEqual(issubclass(error, other), error is other)
                self.assertEqual(isinstance(error(History('')), other), error is other)

    def test_heal_error_is_caught_by_none_of_the_others(self):
        self.assertFalse(isinstance(errors.HealError(0), tuple(OTHERS)))

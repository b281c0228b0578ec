"""Values of all kinds that may be passed in, and a way to see which error comes."""

from healedwebs.errors import HealError
from healedwebs.histories import History
from healedwebs.live import HealedWeb
from healedwebs.webs import Web

LIVE = HealedWeb('web')


def no_strings():
    """Values of all kinds but strings."""
    return [None, True, False, 0, 1, -1, 10 ** 39, (), ('a',), ('places',), [], ['places'], {},
            {'places': 'a'}, Web('places'), Web('places a b\ntie a b'), History(''),
            History('come a'), [Web('places')], ({'a': [History('')]},), LIVE, (LIVE,)]


def no_names():
    """Values that are no name, strings among them."""
    return no_strings() + ['', ' ', 'A', 'aB', 'a1', '1', 'a b', 'a ', ' a', 'abcdefghi', 'a_b',
                           'a-b', 'a\n', '\n']


def no_tuples():
    """Values of all kinds but tuples."""
    return [value for value in no_strings() if not isinstance(value, tuple)] + ['', 'a', 'ab']


def many_names(many):
    """Ascending names, 676 at most."""
    letters = 'abcdefghijklmnopqrstuvwxyz'
    return tuple([one + other for one in letters for other in letters][:many])


def raised(call, /, *args, **more):
    """The class and the value of the package's error that a call raises; None if it raises none."""
    try:
        call(*args, **more)
    except HealError as error:
        return type(error), error.value
    return None


class Raises:
    """For test cases: the very error, with the very value."""

    def raises(self, error, value, call, /, *args, **more):
        found = raised(call, *args, **more)
        self.assertIsNotNone(found, f'{error.__name__} is not raised for {args!r} {more!r}')
        self.assertIs(found[0], error, f'{args!r} {more!r}')
        # Equal alone would take True for 1.
        self.assertIs(type(found[1]), type(value), f'{args!r} {more!r}')
        self.assertEqual(found[1], value, f'{args!r} {more!r}')

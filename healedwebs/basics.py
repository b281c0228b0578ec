"""What names, integers within bounds and ascending sequences are."""

MOST_PLACES = 200
LONGEST_NAME = 8


def is_name(value):
    """Whether any value is a string of one to eight letters a to z."""
    # isalpha and islower alone would also take letters beyond ASCII.
    return (isinstance(value, str) and len(value) <= LONGEST_NAME
            and value.isascii() and value.isalpha() and value.islower())


def is_within(value, least, most):
    """Whether any value is an integer from least to most."""
    if not isinstance(value, int) or isinstance(value, bool):
        return False
    return least <= value <= most


def ascends(values):
    """Whether each of these values, which can be compared, is above the one ahead."""
    return all([one < other for one, other in zip(values, values[1:])])

"""What counts as an integer and as a row."""


def is_integer(value):
    """Whether value is an int that is not a bool."""
    return isinstance(value, int) and not isinstance(value, bool)


def is_integers(value):
    """Whether value is a tuple or list of integers."""
    return isinstance(value, (tuple, list)) and all([is_integer(item) for item in value])


def is_row(value, width):
    """Whether value is a tuple or list of so many integers."""
    return is_integers(value) and len(value) == width

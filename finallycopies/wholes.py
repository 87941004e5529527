"""What an integer is for this package."""


def is_integer(value):
    """Whether any object is an integer; True and False are none."""
    return isinstance(value, int) and not isinstance(value, bool)

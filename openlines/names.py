"""What a name is, and what an integer is."""

from openlines.errors import NoCall

MOST_LETTERS = 8


def is_name(thing):
    """Return whether any value is a name: one to eight letters from a to z."""
    if not isinstance(thing, str) or len(thing) > MOST_LETTERS:
        return False
    return thing.isascii() and thing.isalpha() and thing.islower()


def is_integer(thing):
    """Return whether any value is an integer; True and False are none."""
    return isinstance(thing, int) and not isinstance(thing, bool)


def check_call(thing):
    """Raise NoCall if any value is not a name."""
    if not is_name(thing):
        raise NoCall(thing)

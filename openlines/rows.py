"""Rows, and the bodies that are made of them."""

from openlines.names import is_name

MOST_ROWS = 6


def is_body(call, thing):
    """Return whether any value is a body for the call name."""
    return is_name(call) and wrong_row(call, thing) is None


def hands_on(body):
    """Return whether a body hands the call on."""
    return ("next",) in body


def wrong_row(call, thing):
    """Return what keeps any value from being a body for the call name.

    -1 if it is not a tuple of at most six items, otherwise the index of the
    first item that is not a row of such a body; None if it is a body.
    """
    if not isinstance(thing, tuple) or len(thing) > MOST_ROWS:
        return -1
    for at, row in enumerate(thing):
        if not is_row(call, row):
            return at
    return None


def is_row(call, thing):
    """Return whether any value is a row that a body for the call may have."""
    if not isinstance(thing, tuple):
        return False
    if len(thing) == 1:
        return thing[0] == "next"
    if len(thing) != 2:
        return False
    word, name = thing
    if word == "say":
        return is_name(name)
    # Only greater names may be called, so that no call can run inside itself.
    return word == "call" and is_name(name) and name > call

"""Rows, and the bodies that are made of them."""

from openlines.names import is_name

MOST_ROWS = 6


def is_body(call, thing):
    """Return whether any value is a body for the call name."""
    if not is_name(call):
        return False
    if not isinstance(thing, tuple) or len(thing) > MOST_ROWS:
        return False
    return all([is_row(call, row) for row in thing])


def is_row(call, thing):
    """Return whether any value is a row that a body for the call may have."""
    if not isinstance(thing, tuple):
        return False
    if len(thing) == 1:
        return thing[0] == "next"
    if len(thing) != 2:
        return False
    word, name = thing
    if word == "say":
        return is_name(name)
    # Only greater names may be called, so that no call can run inside itself.
    return word == "call" and is_name(name) and name > call

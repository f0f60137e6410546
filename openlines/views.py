"""What a registry tells to functions that do not look up: lookups would be cached.

They read its tables as they are. A deed replaces tables and never changes
one, so a table that was read stays that of its moment.
"""

from openlines.errors import NoKind


def lines_of(registry):
    """Return the lines of all kinds, a dict by kind, in no order."""
    return registry._lines


def bodies_of(registry):
    """Return all bodies, a dict by (kind, call), in no order."""
    return registry._bodies


def check_kind(thing, lines):
    """Raise NoKind if any value is not a kind that has a line."""
    if not isinstance(thing, str) or thing not in lines:
        raise NoKind(thing)

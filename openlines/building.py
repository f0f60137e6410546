"""Base lists, and the lines that are built of them."""

from openlines.errors import NoBases, NoLine, NoMerge
from openlines.lines import merge_or_none, merged

MOST_BASES = 10


def wrong_base(thing, kinds):
    """Return what keeps any value from being a tuple of distinct kinds.

    -1 if it is not a tuple of at most ten items, otherwise the index of the
    first item that is none of the kinds or occurs earlier; None if it is one.
    """
    if not isinstance(thing, tuple) or len(thing) > MOST_BASES:
        return -1
    for at, base in enumerate(thing):
        if not isinstance(base, str) or base not in kinds or base in thing[:at]:
            return at
    return None


def check_bases(thing, kinds):
    """Raise NoBases if any value is not a tuple of at most ten distinct kinds."""
    at = wrong_base(thing, kinds)
    if at is not None:
        raise NoBases(at)


def check_future_bases(thing, lines):
    """Raise NoBases if any value is not a tuple of one to ten distinct kinds that have a line."""
    if thing == ():
        raise NoBases(-1)
    check_bases(thing, lines)


def lists_of(bases, lines):
    """Return the lists of a base list: the lines of the bases and the list itself."""
    return tuple([lines[base] for base in bases] + [bases])


def line_with(thing, needed, lines):
    """Return the future line of any value, None if it is not a future list with the needed kinds in its line."""
    if thing == () or wrong_base(thing, lines) is not None or not covers(thing, needed, lines):
        return None
    return merge_or_none(lists_of(thing, lines))


def covers(bases, needed, lines):
    """Return whether each needed kind is in the line of one of the bases."""
    for name in needed:
        for base in bases:
            if name in lines[base]:
                break
        else:
            return False
    return True


def new_line(kind, bases, lines):
    """Return the line of a kind with these bases; raises NoLine if there is none."""
    try:
        return (kind,) + merged(lists_of(bases, lines))
    except NoMerge as error:
        raise NoLine(kind, error.ring) from None


def new_lines(changed, bases, lines):
    """Return the lines of all kinds after those of the changed kinds are built anew.

    The bases are those of now, the lines those of before. Raises NoLine for
    the first kind that has no line.
    """
    result = {kind: lines[kind] for kind in lines if kind not in changed}
    while len(result) < len(bases):
        left = [kind for kind in changed if kind not in result]
        ready = min([kind for kind in left if all([base in result for base in bases[kind]])])
        result[ready] = new_line(ready, bases[ready], result)
    return result

"""What a call of the package returns or raises, so that tests can compare it."""

from openlines import errors
from plain import Refused

CLASSES = tuple([made for made in vars(errors).values() if isinstance(made, type)])

READINGS = ("kinds", "objects", "opened", "cached")
READINGS_OF_A_KIND = ("bases", "line", "calls", "below")


def told(function, *arguments, **named):
    """Return ("returned", value), or (the name of the error, its fields)."""
    try:
        return ("returned", function(*arguments, **named))
    except CLASSES as error:
        return (type(error).__name__, vars(error))
    except Refused as error:
        return (error.word, error.fields)


def read(registry, calls=("f", "g", "h")):
    """Return all that can be read of a registry without a change: (name, arguments, what is told)."""
    rows = [(name, (), told(getattr(registry, name))) for name in READINGS]
    for kind in registry.kinds():
        rows += [(name, (kind,), told(getattr(registry, name), kind)) for name in READINGS_OF_A_KIND]
        rows += [(name, (kind, call), told(getattr(registry, name), kind, call))
                 for name in ("body", "run") for call in calls]
    for number, _, _ in registry.opened():
        rows += [(name, (number,), told(getattr(registry, name), number)) for name in ("stack", "rest")]
        rows += [("difference", (number, kind), told(registry.difference, number, kind)) for kind in registry.kinds()]
    return rows


def kept(registry):
    """Return all that a deed that raises must leave as it is."""
    return (read(registry), registry.deeds, len(registry), repr(registry))


def refused(test, registry, error, fields, function, *arguments, **named):
    """Check that a call raises this very error with these fields, and changes nothing."""
    before = kept(registry)
    with test.assertRaises(error) as caught:
        function(*arguments, **named)
    test.assertIs(type(caught.exception), error)
    test.assertEqual(repr(vars(caught.exception)), repr(fields))
    test.assertEqual(kept(registry), before)

"""Any values, as the document means them, for the tests."""

from openlines.desk import Desk
from openlines.registry import Registry

DEEP = "a"
for _ in range(12):
    DEEP = (DEEP,)

DEEP_LISTS = []
for _ in range(11):
    DEEP_LISTS = [DEEP_LISTS]

# A desk equals nothing but itself, so these can be compared with copies.
VALUES_BUT_DESKS = (
    0, 1, -1, 7, 10 ** 59, -(10 ** 59), True, False, None,
    "", "a", "b", "next", "say", "call", "A", "a b", "\n", "~" * 3000,
    (), [], ((),), [[]], ("a",), ["a"], ("a", "b"), ("a", "b", 0), ["a", "b", 0],
    (("a", "b", 0),), [("a", "b", 0)], ("next",), ["next"], (("next",),), [("next",)],
    (None, None, None), ((None, None, None), (None, None, None)), ("a", ["b"], (0, [True])),
    DEEP, DEEP_LISTS, (0,) * 5000, ["a"] * 5000, (("a", "b", 0),) * 1000,
    Registry(), Registry.built((("a", ()),)), [Registry()], (Registry(),), ("a", (Registry(), None)),
)
ANY_VALUES = VALUES_BUT_DESKS + (Desk(), (Desk("kind a"), "a"))


def replaced(thing):
    """Yield what a tuple becomes if a part of it is replaced, put in or left out."""
    for at in range(len(thing)):
        yield thing[:at] + thing[at + 1:]
        for part in ANY_VALUES:
            yield thing[:at] + (part,) + thing[at + 1:]
        if isinstance(thing[at], tuple):
            yield thing[:at] + (list(thing[at]),) + thing[at + 1:]
            for part in replaced(thing[at]):
                yield thing[:at] + (part,) + thing[at + 1:]
    for at in range(len(thing) + 1):
        for part in ANY_VALUES:
            yield thing[:at] + (part,) + thing[at:]
    yield list(thing)

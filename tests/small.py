"""Small registries for the tests, each with the same registry word for word."""

import itertools
import random

from openlines.registry import Registry
from plain import Plain, Refused


def both(rows, bodies, settled=()):
    """A registry and the same one word for word: rows of (name, bases), and bodies (kind, call).

    The bodies hand on, but for those of the settled kinds.
    """
    registry, plain = Registry.built(rows), Plain()
    for name, bases in rows:
        plain.add(name, bases)
    for kind, call in bodies:
        body = (("say", "end"),) if kind in settled else (("next",),)
        registry.set_body(kind, call, body)
        plain.set_body(kind, call, body)
    return registry, plain


def all_small(names):
    """Yield the rows of all registries of these kinds, of which each is built on earlier ones."""
    choices = []
    for many in range(len(names)):
        choices.append([picked for length in range(many + 1)
                        for picked in itertools.permutations(names[:many], length)])
    for picked in itertools.product(*choices):
        rows = list(zip(names, picked))
        if has_lines(rows):
            yield rows


def has_lines(rows):
    plain = Plain()
    try:
        for name, bases in rows:
            plain.add(name, bases)
    except Refused:
        return False
    return True


def some_rows(chance, many):
    """The rows of a random registry with so many kinds, whose names are in no order."""
    names = chance.sample("abcdefghijklmnopqrstuvwxyz", many)
    plain, rows = Plain(), []
    for name in names:
        done = False
        while not done:
            bases = tuple(chance.sample(plain.kinds(), min(len(rows), chance.choice([0, 0, 1, 1, 2, 2, 3]))))
            try:
                plain.add(name, bases)
                done = True
            except Refused:
                done = False
        rows.append((name, bases))
    return rows


def some_registries(seed, many, kinds, calls=("f",), most=6, share=0):
    """Yield so many random registries, each with the same one word for word; a share of the bodies is settled."""
    chance = random.Random(seed)
    for _ in range(many):
        rows = some_rows(chance, kinds)
        bodies = []
        for call in calls:
            definers = chance.sample([name for name, _ in rows], chance.randrange(min(most, kinds) + 1))
            bodies += [(kind, call) for kind in definers]
        yield both(rows, bodies, [name for name, _ in rows if chance.random() < share])


def of_many_bodies(last):
    """A registry in which f on a runs 397 bodies and so many more."""
    registry = Registry.built((("b", ()), ("a", ("b",))))
    registry.set_body("b", "z", ())
    registry.set_body("b", "y", (("call", "z"),) * 6)
    registry.set_body("b", "x", (("call", "y"),) * 6)
    registry.set_body("b", "w", (("call", "x"),) * 6)
    registry.set_body("a", "g", (("call", "z"),) * last)
    registry.set_body("a", "f", (("call", "w"),) + (("call", "x"),) * 3 + (("call", "y"), ("call", "g")))
    return registry

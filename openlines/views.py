"""What a registry tells to functions that do not look up: lookups would be cached."""

from openlines.errors import NoKind


def check_kind(registry, thing):
    """Raise NoKind if any value is not a kind of the registry."""
    if not registry.has(thing):
        raise NoKind(thing)


def lines_of(registry):
    """Return the lines of all kinds, a dict by kind, ascending."""
    return {kind: registry.line(kind) for kind in registry.kinds()}


def bodies_of(registry, call):
    """Return the bodies for a call, a dict by (kind, call)."""
    kinds = [kind for kind in registry.kinds() if registry.body(kind, call) is not None]
    return {(kind, call): registry.body(kind, call) for kind in kinds}

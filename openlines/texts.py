"""Bodies, registries and events, written as strings."""

from openlines.errors import NoBases, NoCall, NoLine, NoName, NoText, Taken, TooMany
from openlines.registry import Registry, forget_past
from openlines.rows import MOST_ROWS, is_row

DASH = "-"


def show_body(body):
    """Return a body, written."""
    return ", ".join([" ".join(row) for row in body]) or DASH


def read_body(call, string):
    """Return the body for a call that is so written; raises NoText."""
    if not isinstance(string, str):
        raise NoText(-1)
    if string == DASH:
        return ()
    rows = [tuple(part.split(" ")) for part in string.split(", ")]
    for at, row in enumerate(rows[:MOST_ROWS]):
        if not is_row(call, row):
            raise NoText(at)
    if len(rows) > MOST_ROWS:
        raise NoText(MOST_ROWS)
    return tuple(rows)


def show_event(event):
    """Return an event, written."""
    return " ".join([DASH if part is None else part for part in event])


def show_registry(registry):
    """Return the kinds and bodies of a registry, written."""
    lines = []
    written = []
    left = registry.kinds()
    while left:
        kind = min([name for name in left if all([base in written for base in registry.bases(name)])])
        lines.append(" ".join(["kind", kind] + list(registry.bases(kind))))
        lines.extend([f"body {call} {show_body(registry.body(kind, call))}" for call in registry.calls(kind)])
        written.append(kind)
        left.remove(kind)
    return "\n".join(lines)


def read_registry(string):
    """Return a new registry that is so written, in which nothing can be taken back; raises NoText."""
    if not isinstance(string, str):
        raise NoText(-1)
    registry = Registry()
    lines = string.split("\n") if string else []
    kind = None
    for at, line in enumerate(lines):
        try:
            kind = _do_line(registry, kind, line)
        except (NoText, NoName, Taken, NoBases, TooMany, NoLine, NoCall):
            raise NoText(at) from None
    if show_registry(registry) != string:
        raise NoText(len(lines))
    forget_past(registry)
    return registry


def _do_line(registry, kind, line):
    """Do a line for the kind of the last "kind" line, None if there is none; return the kind for the next line."""
    words = line.split(" ")
    if words[0] == "kind" and len(words) > 1:
        registry.add(words[1], tuple(words[2:]))
        return words[1]
    if words[0] != "body" or len(words) < 3 or kind is None:
        raise NoText(0)
    registry.set_body(kind, words[1], read_body(words[1], " ".join(words[2:])))
    return kind

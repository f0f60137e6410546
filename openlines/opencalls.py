"""The steps of an open call, and what is left of it.

An open body is a tuple (definer, call, row, rows): it keeps the rows that it
had when it was entered. A stack is a tuple of them, the last one is on top.
"""

from openlines.errors import TooLong
from openlines.lookups import first_kind, next_kind

MOST_RUN = 400


def after_step(line, bodies, call, stack):
    """Return (event, stack) after one step of a call in a line.

    An empty stack means ahead of the step that the call was not stepped yet,
    and behind it that the call is over.
    """
    if not stack:
        return _entered(first_kind(line, call, bodies), None, call, bodies, stack)
    definer, name, row, rows = stack[-1]
    if row == len(rows):
        return ("leave", definer, name), stack[:-1]
    rest = stack[:-1] + ((definer, name, row + 1, rows),)
    words = rows[row]
    if words[0] == "say":
        return ("say", definer, words[1]), rest
    if words[0] == "call":
        return _entered(first_kind(line, words[1], bodies), definer, words[1], bodies, rest)
    # The line may have changed since the body was entered.
    found = next_kind(line, definer, name, bodies) if definer in line else None
    return _entered(found, definer, name, bodies, rest)


def _entered(kind, definer, call, bodies, stack):
    """Return (event, stack) after the body of a kind was looked up by a definer."""
    if kind is None:
        return ("lost", definer, call), stack
    return ("enter", kind, call), stack + ((kind, call, 0, bodies[(kind, call)]),)


def rest_of(line, bodies, call, stack):
    """Return the events "say" and "lost" of all further steps in a line, a list.

    Raises TooLong if more than four hundred bodies would be entered.
    """
    events = []
    entered = 0
    over = False
    while not over:
        event, stack = after_step(line, bodies, call, stack)
        if event[0] == "enter":
            entered += 1
        elif event[0] != "leave":
            events.append(event)
        if entered > MOST_RUN:
            raise TooLong()
        over = not stack
    return events


def first_difference(one, other):
    """Return the first index at which two lists differ.

    The length of the shorter one if the longer one only goes on; None if they
    are equal.
    """
    for at, (event, another) in enumerate(zip(one, other)):
        if event != another:
            return at
    if len(one) == len(other):
        return None
    return min(len(one), len(other))

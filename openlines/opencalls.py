"""The steps of an open call, and what is left of it.

An open body is a tuple (definer, call, row, rows): it keeps the rows that it
had when it was entered. A stack is a tuple of them, the last one is on top.
"""

from openlines.errors import TooLong
from openlines.lookups import first_kind, next_kind

MOST_RUN = 400


def after_step(line, bodies, call, stack):
    """Return (event, stack) after one step of a call in a line.

    An empty stack means ahead of the step that the call was not stepped yet,
    and behind it that the call is over.
    """
    if not stack:
        return _entered(first_kind(line, call, bodies), None, call, bodies, stack)
    definer, name, row, rows = stack[-1]
    if row == len(rows):
        return ("leave", definer, name), stack[:-1]
    rest = stack[:-1] + ((definer, name, row + 1, rows),)
    words = rows[row]
    if words[0] == "say":
        return ("say", definer, words[1]), rest
    called = name if words[0] == "next" else words[1]
    return _entered(_looked_up(words[0], definer, called, line, bodies), definer, called, bodies, rest)


def _entered(kind, definer, call, bodies, stack):
    """Return (event, stack) after the body of a kind was looked up by a definer."""
    if kind is None:
        return ("lost", definer, call), stack
    return ("enter", kind, call), stack + ((kind, call, 0, bodies[(kind, call)]),)


def rest_of(line, bodies, call, stack):
    """Return the events "say" and "lost" of all further steps in a line, a list.

    Raises TooLong if more than four hundred bodies would be entered.
    """
    # Ahead of the first step the call is like a body without a kind that calls it.
    left = stack or ((None, call, 0, (("call", call),)),)
    events = []
    entered = 0
    known = {}
    for definer, name, row, rows in reversed(left):
        many, told = _run_rows(definer, name, rows[row:], line, bodies, known)
        entered += many
        events.extend(told)
        if entered > MOST_RUN:
            raise TooLong()
    return events


def _run_rows(definer, call, rows, line, bodies, known):
    """Return how many bodies some rows of a body enter, and the events "say" and "lost" of all that they do.

    The line stays as it is, so that a body does the same each time it is
    entered: known keeps that for each body. Raises TooLong.
    """
    entered = 0
    events = []
    for words in rows:
        if words[0] == "say":
            events.append(("say", definer, words[1]))
            continue
        name = call if words[0] == "next" else words[1]
        kind = _looked_up(words[0], definer, name, line, bodies)
        if kind is None:
            events.append(("lost", definer, name))
            continue
        if (kind, name) not in known:
            known[(kind, name)] = _run_rows(kind, name, bodies[(kind, name)], line, bodies, known)
        many, told = known[(kind, name)]
        entered += many + 1
        events.extend(told)
        if entered > MOST_RUN:
            raise TooLong()
    return entered, events


def _looked_up(word, definer, call, line, bodies):
    """Return the kind whose body a row "next" or "call" of a definer enters, None if there is none."""
    if word == "call":
        return first_kind(line, call, bodies)
    # The line may have changed since the body was entered.
    return next_kind(line, definer, call, bodies) if definer in line else None


def first_difference(one, other):
    """Return the first index at which two lists differ.

    The length of the shorter one if the longer one only goes on; None if they
    are equal.
    """
    for at, (event, another) in enumerate(zip(one, other)):
        if event != another:
            return at
    if len(one) == len(other):
        return None
    return min(len(one), len(other))

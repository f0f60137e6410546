"""Lookups of bodies in a line, and whether an answer of the cache is still right.

The bodies are a dict whose keys are tuples (kind, call).
"""

from openlines.rows import hands_on


def first_kind(line, call, bodies):
    """Return the first kind of a line, or of a part of it, that has a body for the call, or None."""
    for kind in line:
        if (kind, call) in bodies:
            return kind
    return None


def next_kind(line, definer, call, bodies):
    """Return the first kind behind a definer of the line that has a body for the call, or None."""
    return first_kind(line[line.index(definer) + 1:], call, bodies)


def course_in(line, kind, call, bodies):
    """Return the course of a kind with a body in a line that has the kind, a tuple."""
    course = (kind,)
    for name in line[line.index(kind) + 1:]:
        if not hands_on(bodies[(course[-1], call)]):
            return course
        if (name, call) in bodies:
            course = course + (name,)
    return course


def is_still_right(key, answer, lines, bodies):
    """Return whether the lookup of a key of the cache raises no error and returns this answer."""
    if key[0] not in lines:
        return False
    line = lines[key[0]]
    if len(key) == 2:
        return first_kind(line, key[1], bodies) == answer
    return key[1] in line and next_kind(line, key[1], key[2], bodies) == answer


def in_order(keys):
    """Return the keys of a cache as a new list, those of two items ahead of those of three."""
    return sorted(keys, key=lambda key: (len(key), key))

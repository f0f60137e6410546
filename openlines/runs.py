"""Courses of calls in lines that are not built yet: the longest, those that end lost, and the seals."""

from openlines.building import line_with
from openlines.chains import bases_of_chain
from openlines.errors import Absent, NoKind
from openlines.futures import first_hindrance, hinders
from openlines.lookups import course_in
from openlines.names import check_call
from openlines.rows import hands_on
from openlines.views import bodies_of, check_kind, lines_of


def courses(registry, kind, call):
    """Yield (course, ends) for all courses of a kind in future lines, ascending.

    All that is asked of the registry is asked ahead of the first item.
    """
    lines = lines_of(registry)
    bodies = bodies_of(registry)
    _check_start(kind, call, lines, bodies)
    start = (kind,)
    for course, ends, _ in courses_behind(start, call, lines, bodies):
        yield (course, ends)


def courses_behind(begun, call, lines, bodies):
    """Yield (course, ends, bases) for all courses that begin with a chain, ascending; a future list with each."""
    bases = bases_of_chain(begun, call, lines, bodies)
    if bases is None:
        return
    if not hands_on(bodies[(begun[-1], call)]):
        yield (begun, False, bases)
        return
    if bases == begun:
        yield (begun, True, bases)
    for kind in sorted(lines):
        if (kind, call) in bodies and kind not in begun:
            further = begun + (kind,)
            yield from courses_behind(further, call, lines, bodies)


def longest(registry, kind, call):
    """Return (course, bases): the least of the courses with the most kinds, and a future list with it."""
    lines = lines_of(registry)
    bodies = bodies_of(registry)
    _check_start(kind, call, lines, bodies)
    start = (kind,)
    found = list(courses_behind(start, call, lines, bodies))
    most = max([len(course) for course, _, _ in found])
    return min([(course, bases) for course, _, bases in found if len(course) == most])


def lost(registry, kind, call):
    """Return (course, bases): the least of the courses with the fewest kinds that end lost, or None.

    A course that ends lost has all kinds with a body that stand behind the
    kind in its own line. So the course there ends lost, too, and it is the
    only one with as few kinds.
    """
    lines = lines_of(registry)
    bodies = bodies_of(registry)
    _check_start(kind, call, lines, bodies)
    course = course_in(lines[kind], kind, call, bodies)
    if not hands_on(bodies[(course[-1], call)]):
        return None
    return (course, (kind,))


def seals(registry, kind, call):
    """Return the seals of a kind, in the order of its line."""
    lines = lines_of(registry)
    bodies = bodies_of(registry)
    _check_start(kind, call, lines, bodies)
    for stray in _strays(kind, call, lines, bodies):
        if bases_of_chain((kind, stray), call, lines, bodies) is not None:
            return []
    # Whatever else can come between hands on, so that all courses have the course in the own line of the kind.
    return list(course_in(lines[kind], kind, call, bodies)[1:])


def seal_paper(registry, kind, call, target):
    """Return a paper about a seal: a future list whose course skips the target, or why there is none."""
    lines = lines_of(registry)
    bodies = bodies_of(registry)
    _check_start(kind, call, lines, bodies)
    _check_target(kind, target, lines)
    if target not in course_in(lines[kind], kind, call, bodies):
        return ("skipped", (kind,))
    papers = []
    for stray in _strays(kind, call, lines, bodies):
        # A course that comes to a stray next is settled there.
        bases = bases_of_chain((kind, stray), call, lines, bodies)
        if bases is not None:
            return ("skipped", bases)
        papers.append((stray, first_hindrance(kind, call, stray, lines, bodies)))
    return ("seal", tuple(papers))


def shows_seal(registry, kind, call, target, paper):
    """Return whether any value is a paper about a seal that holds."""
    lines = lines_of(registry)
    bodies = bodies_of(registry)
    _check_start(kind, call, lines, bodies)
    _check_target(kind, target, lines)
    if not isinstance(paper, tuple) or len(paper) != 2:
        return False
    word, proof = paper
    if word == "skipped":
        needed = (kind,)
        line = line_with(proof, needed, lines)
        return line is not None and target not in course_in(line, kind, call, bodies)
    if word != "seal" or target not in course_in(lines[kind], kind, call, bodies):
        return False
    return _are_strays(proof, kind, call, lines, bodies)


def _check_start(kind, call, lines, bodies):
    """Raise NoKind, NoCall or Absent if any values are not a kind and a call that it has a body for."""
    check_kind(kind, lines)
    check_call(call)
    if (kind, call) not in bodies:
        raise Absent(kind, call)


def _check_target(kind, target, lines):
    """Raise NoKind if any value is not a kind other than the one that is asked about."""
    check_kind(target, lines)
    if target == kind:
        raise NoKind(target)


def _strays(kind, call, lines, bodies):
    """Return the kinds that are not in the line of a kind, at which a course would be settled, ascending."""
    return [name for name in sorted(lines)
            if name not in lines[kind] and (name, call) in bodies and not hands_on(bodies[(name, call)])]


def _are_strays(thing, kind, call, lines, bodies):
    """Return whether any value is all strays of a kind, in order, each with why it never can be next."""
    strays = _strays(kind, call, lines, bodies)
    if not isinstance(thing, tuple) or len(thing) != len(strays):
        return False
    for row, stray in zip(thing, strays):
        if not isinstance(row, tuple) or len(row) != 2 or row[0] != stray:
            return False
        # A stray has a body and is not in the line, so nothing but "behind" and "clash" can hold.
        if not hinders(kind, call, stray, row[1], lines, bodies):
            return False
    return True

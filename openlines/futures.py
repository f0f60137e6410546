"""What can be next behind a kind in lines that are not built yet."""

from openlines.building import check_future_bases, covers, line_with, lists_of
from openlines.lines import merge_or_none, merged, stands_ahead
from openlines.lookups import next_kind
from openlines.names import check_call
from openlines.views import bodies_of, check_kind, lines_of

MOST_OF_A_LEAST_LIST = 3


def future_line(registry, bases):
    """Return the future line of a base list.

    Raises NoBases, and NoMerge with the least of the shortest rings.
    """
    lines = lines_of(registry)
    check_future_bases(bases, lines)
    return merged(lists_of(bases, lines))


def future_lists(registry, most):
    """Yield (bases, line) for all future lists of at most so many kinds.

    Shorter lists come first, lists of equal length ascending.
    """
    lines = lines_of(registry)
    for many in range(1, min(most, len(lines)) + 1):
        found = False
        for row in lists_behind((), many, lines, ()):
            found = True
            yield row
        # A longer one would begin with one of this length.
        if not found:
            return


def lists_behind(begun, many, lines, needed):
    """Yield (bases, line) for all future lists of so many kinds that begin with the begun ones.

    Only those in whose line the needed names are.
    """
    for kind in sorted(lines):
        bases = begun + (kind,)
        # What a list must have is asked ahead of its merge, which takes far longer.
        if kind in begun or len(bases) == many and not covers(bases, needed, lines):
            continue
        # A list that begins with no future list is none either, as it has all demands of the beginning.
        line = merge_or_none(lists_of(bases, lines))
        if line is None:
            continue
        if len(bases) == many:
            yield (bases, line)
        else:
            yield from lists_behind(bases, many, lines, needed)


def targets(registry, kind, call):
    """Return (target, least list) for everything that can be next behind a kind, None last."""
    lines = lines_of(registry)
    bodies = bodies_of(registry)
    check_kind(kind, lines)
    check_call(call)
    possible = [target for target in registry.kinds() + [None]
                if first_hindrance(kind, call, target, lines, bodies) is None]
    found = _least_lists(kind, call, possible, lines, bodies)
    return [(target, found[target]) for target in possible]


def verdict(registry, kind, call, target):
    """Return a paper about a target: its least list, or the first reason why it never can be next."""
    lines = lines_of(registry)
    bodies = bodies_of(registry)
    _check_question(kind, call, target, lines)
    paper = first_hindrance(kind, call, target, lines, bodies)
    if paper is not None:
        return paper
    return ("can", _least_lists(kind, call, [target], lines, bodies)[target])


def shows(registry, kind, call, target, paper):
    """Return whether any value is a paper about a target that holds."""
    lines = lines_of(registry)
    bodies = bodies_of(registry)
    _check_question(kind, call, target, lines)
    if isinstance(paper, tuple) and len(paper) == 2 and paper[0] == "can":
        needed = (kind,) if target is None else (kind, target)
        line = line_with(paper[1], needed, lines)
        return line is not None and next_kind(line, kind, call, bodies) == target
    return hinders(kind, call, target, paper, lines, bodies)


def _check_question(kind, call, target, lines):
    """Raise NoKind or NoCall if nothing can be asked about these values."""
    check_kind(kind, lines)
    check_call(call)
    if target is not None:
        check_kind(target, lines)


def _least_lists(kind, call, wanted, lines, bodies):
    """Return the least list of each wanted target, a dict. Each of them must have one."""
    found = {}
    for many in range(1, MOST_OF_A_LEAST_LIST + 1):
        left = [target for target in wanted if target not in found]
        needed = [kind] + [target for target in left if len(left) == 1 and target is not None]
        for bases, line in lists_behind((), many, lines, needed):
            target = next_kind(line, kind, call, bodies)
            if target in left:
                found.setdefault(target, bases)
            if len(found) == len(wanted):
                return found
    return found


def first_hindrance(kind, call, target, lines, bodies):
    """Return the first paper that shows why a target never can be next behind a kind, None if it can be."""
    mine = lines[kind]
    between = next_kind(mine, kind, call, bodies)
    if target is None:
        return None if between is None else ("between", between)
    if (target, call) not in bodies:
        return ("no body",)
    if kind in lines[target]:
        return ("behind",)
    if stands_ahead(mine, between, target):
        return ("between", between)
    return _least_clash(mine, lines[target])


def _least_clash(mine, theirs):
    """Return the least paper that two lines demand two names in different orders, or None."""
    both = [name for name in mine if name in theirs]
    return min([("clash", first, second) for at, first in enumerate(both) for second in both[at + 1:]
                if stands_ahead(theirs, second, first)], default=None)


def hinders(kind, call, target, paper, lines, bodies):
    """Return whether any value is a paper that holds and shows why a target never can be next behind a kind."""
    if not isinstance(paper, tuple) or not 1 <= len(paper) <= 3:
        return False
    word = paper[0]
    if len(paper) == 2:
        return word == "between" and _is_between(kind, call, target, paper[1], lines, bodies)
    if target is None:
        return False
    if len(paper) == 3:
        return (word == "clash" and stands_ahead(lines[kind], paper[1], paper[2])
                and stands_ahead(lines[target], paper[2], paper[1]))
    if word == "no body":
        return (target, call) not in bodies
    return word == "behind" and kind in lines[target]


def _is_between(kind, call, target, thing, lines, bodies):
    """Return whether any value is a kind with a body that stands behind a kind, and ahead of a target."""
    mine = lines[kind]
    # What is in the line is a name, so the bodies can be asked for it.
    if thing not in mine[1:] or (thing, call) not in bodies:
        return False
    return target is None or stands_ahead(mine, thing, target)

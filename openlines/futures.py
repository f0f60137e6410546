"""What can be next behind a kind in lines that are not built yet."""

from openlines.building import check_bases, line_or_none, lists_of
from openlines.errors import NoBases
from openlines.lines import merge_or_none, merged
from openlines.lookups import next_kind
from openlines.names import check_call
from openlines.views import bodies_of, check_kind, lines_of

MOST_OF_A_LEAST_LIST = 3


def future_line(registry, bases):
    """Return the future line of a base list.

    Raises NoBases, and NoMerge with the least of the shortest rings.
    """
    if bases == ():
        raise NoBases(-1)
    check_bases(bases, registry.kinds())
    return merged(lists_of(bases, lines_of(registry)))


def future_lists(registry, most):
    """Yield (bases, line) for all future lists of at most so many kinds.

    Shorter lists come first, lists of equal length ascending.
    """
    lines = lines_of(registry)
    for many in range(1, min(most, len(lines)) + 1):
        found = False
        for row in lists_behind((), many, lines, ()):
            found = True
            yield row
        # A longer one would begin with one of this length.
        if not found:
            return


def lists_behind(begun, many, lines, needed):
    """Yield (bases, line) for all future lists of so many kinds that begin with the begun ones.

    Only those in whose line the needed names are.
    """
    for kind in lines:
        bases = begun + (kind,)
        if kind in begun or len(bases) == many and not _covers(bases, lines, needed):
            continue
        # A list that begins with no future list is none either, as it has all demands of the beginning.
        line = merge_or_none(lists_of(bases, lines))
        if line is None:
            continue
        if len(bases) == many:
            yield (bases, line)
        else:
            yield from lists_behind(bases, many, lines, needed)


def _covers(bases, lines, needed):
    """Return whether each needed name is in the line of one of the bases."""
    return all([any([name in lines[base] for base in bases]) for name in needed])


def targets(registry, kind, call):
    """Return (target, least list) for everything that can be next behind a kind, None last."""
    check_kind(registry, kind)
    check_call(call)
    possible = [target for target in registry.kinds() + [None] if not _hindrances(registry, kind, call, target)]
    found = _least_lists(registry, kind, call, possible)
    return [(target, found[target]) for target in possible]


def verdict(registry, kind, call, target):
    """Return a paper about a target: its least list, or the first reason why it never can be next."""
    _check_question(registry, kind, call, target)
    hindrances = _hindrances(registry, kind, call, target)
    if hindrances:
        return hindrances[0]
    return ("can", _least_lists(registry, kind, call, [target])[target])


def shows(registry, kind, call, target, paper):
    """Return whether any value is a paper about a target that holds."""
    _check_question(registry, kind, call, target)
    if isinstance(paper, tuple) and len(paper) == 2 and paper[0] == "can":
        line = line_or_none(paper[1], lines_of(registry))
        if line is None or kind not in line:
            return False
        return next_kind(line, kind, call, bodies_of(registry, call)) == target
    return paper in _hindrances(registry, kind, call, target)


def _check_question(registry, kind, call, target):
    """Raise NoKind or NoCall if nothing can be asked about these values."""
    check_kind(registry, kind)
    check_call(call)
    if target is not None:
        check_kind(registry, target)


def _least_lists(registry, kind, call, wanted):
    """Return the least list of each wanted target, a dict. Each of them must have one."""
    lines = lines_of(registry)
    bodies = bodies_of(registry, call)
    found = {}
    for many in range(1, MOST_OF_A_LEAST_LIST + 1):
        left = [target for target in wanted if target not in found]
        # What one list must have is asked ahead of its merge, which takes far longer.
        needed = [kind] + [target for target in left if len(left) == 1 and target is not None]
        for bases, line in lists_behind((), many, lines, needed):
            target = next_kind(line, kind, call, bodies)
            if target in left:
                found.setdefault(target, bases)
            if len(found) == len(wanted):
                return found
    return found


def _hindrances(registry, kind, call, target):
    """Return all papers that hold and show that a target never can be next, in their order."""
    found = []
    bodies = bodies_of(registry, call)
    mine = registry.line(kind)
    behind = [name for name in mine[1:] if (name, call) in bodies]
    if target is None:
        return [("between", name) for name in behind]
    theirs = registry.line(target)
    if (target, call) not in bodies:
        found.append(("no body",))
    if kind in theirs:
        found.append(("behind",))
    if target in mine:
        found.extend([("between", name) for name in behind if mine.index(name) < mine.index(target)])
    return found + _clashes(mine, theirs)


def _clashes(mine, theirs):
    """Return all papers that two lines demand two names in different orders, ascending."""
    both = [name for name in mine if name in theirs]
    return sorted([("clash", first, second) for at, first in enumerate(both) for second in both[at + 1:]
                   if theirs.index(second) < theirs.index(first)])

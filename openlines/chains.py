"""Whether kinds can be a chain in lines that are not built yet."""

from openlines.building import line_with, lists_of
from openlines.errors import NoChain
from openlines.lines import any_ring, is_ring, is_road, merge_or_none
from openlines.names import check_call
from openlines.roads import road_to
from openlines.views import bodies_of, lines_of

MOST_OF_A_CHAIN = 10


def chain(registry, call, kinds, *, lost=False):
    """Return a paper about a chain: a future list in which it is possible, or why there is none."""
    lines = lines_of(registry)
    bodies = bodies_of(registry)
    _check_chain(call, kinds, lines, bodies)
    bases = bases_of_chain(kinds, call, lines, bodies)
    if bases is not None and (bases == kinds or not lost):
        return ("can", bases)
    lists = lists_of(kinds, lines)
    ring = any_ring(lists)
    if ring is not None:
        return ("ring", ring)
    others = others_of(kinds, call, lines, bodies)
    if bases is not None:
        return ("after", road_to(lists, kinds, others))
    back = road_to(lists, others, kinds)
    return ("between", road_to(lists, kinds, [back[0][0]]), back)


def bases_of_chain(kinds, call, lines, bodies):
    """Return a future list in whose line a chain is possible, None if there is none.

    Behind the chain it has all other kinds with a body that every line with
    the chain has. So the chain can end lost exactly if it has no others.
    """
    others = others_of(kinds, call, lines, bodies)
    last = tuple([(kinds[-1], other) for other in others])
    line = merge_or_none(lists_of(kinds, lines) + last)
    if line is None:
        return None
    return kinds + tuple([name for name in line if name in others])


def others_of(kinds, call, lines, bodies):
    """Return the kinds with a body that are in the lines of a chain, but not in the chain."""
    return [name for name in lines if (name, call) in bodies and name not in kinds
            and any([name in lines[kind] for kind in kinds])]


def shows_chain(registry, call, kinds, paper, *, lost=False):
    """Return whether any value is a paper about a chain that holds."""
    lines = lines_of(registry)
    bodies = bodies_of(registry)
    _check_chain(call, kinds, lines, bodies)
    if not isinstance(paper, tuple) or not 2 <= len(paper) <= 3:
        return False
    word = paper[0]
    proof = paper[1]
    if len(paper) == 3:
        return word == "between" and _are_around(proof, paper[2], call, kinds, lines, bodies)
    if word == "can":
        line = line_with(proof, kinds, lines)
        return line is not None and _is_possible(line, call, kinds, bodies, lost)
    if word == "ring":
        return is_ring(lists_of(kinds, lines), proof)
    return word == "after" and lost and _leads_away(lists_of(kinds, lines), proof, call, kinds, bodies)


def _check_chain(call, kinds, lines, bodies):
    """Raise NoCall or NoChain if any values are not a call name and a chain for it."""
    check_call(call)
    if not isinstance(kinds, tuple) or not 2 <= len(kinds) <= MOST_OF_A_CHAIN:
        raise NoChain(-1)
    for at, kind in enumerate(kinds):
        if not isinstance(kind, str) or kind not in lines or kind in kinds[:at]:
            raise NoChain(at)
        if at > 0 and (kind, call) not in bodies:
            raise NoChain(at)


def _is_possible(line, call, kinds, bodies, lost):
    """Return whether a chain is possible in a future line with its kinds, and ends lost if that is asked."""
    behind = tuple([name for name in line[line.index(kinds[0]) + 1:] if (name, call) in bodies])
    if lost:
        return behind == kinds[1:]
    return behind[:len(kinds) - 1] == kinds[1:]


def _leads_away(lists, thing, call, kinds, bodies):
    """Return whether any value is a road of the lists from a kind of a chain to another kind with a body."""
    if not is_road(lists, thing) or thing[0][0] not in kinds:
        return False
    last = thing[-1][1]
    return last not in kinds and (last, call) in bodies


def _are_around(thing, other, call, kinds, lines, bodies):
    """Return whether any values are a road from a chain to another kind and one from it back to the chain."""
    lists = lists_of(kinds, lines)
    if not _leads_away(lists, thing, call, kinds, bodies) or not is_road(lists, other):
        return False
    return other[0][0] == thing[-1][1] and other[-1][1] in kinds

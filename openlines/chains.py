"""Whether kinds can be a chain in lines that are not built yet."""

from openlines.building import line_or_none, lists_of
from openlines.errors import NoChain
from openlines.lines import any_ring, is_ring, is_road, merge_or_none
from openlines.lookups import next_kind
from openlines.names import check_call
from openlines.roads import road_to
from openlines.views import bodies_of, lines_of

MOST_OF_A_CHAIN = 10


def chain(registry, call, kinds, *, lost=False):
    """Return a paper about a chain: a future list in which it is possible, or why there is none."""
    _check_chain(registry, call, kinds)
    lines = lines_of(registry)
    bodies = bodies_of(registry, call)
    bases = bases_of_chain(kinds, call, lines, bodies)
    if bases is not None and (bases == kinds or not lost):
        return ("can", bases)
    lists = lists_of(kinds, lines)
    ring = any_ring(lists)
    if ring is not None:
        return ("ring", ring)
    others = others_of(kinds, call, lines, bodies)
    if bases is not None:
        return ("after", road_to(lists, kinds, others))
    back = road_to(lists, others, kinds)
    return ("between", road_to(lists, kinds, [back[0][0]]), back)


def bases_of_chain(kinds, call, lines, bodies):
    """Return a future list in whose line a chain is possible, None if there is none.

    Behind the chain it has all other kinds with a body that every line with
    the chain has. So the chain can end lost exactly if it has no others.
    """
    others = others_of(kinds, call, lines, bodies)
    last = tuple([(kinds[-1], other) for other in others])
    line = merge_or_none(lists_of(kinds, lines) + last)
    if line is None:
        return None
    return kinds + tuple([name for name in line if name in others])


def others_of(kinds, call, lines, bodies):
    """Return the kinds with a body that are in the lines of a chain, but not in the chain."""
    return [name for name in lines if (name, call) in bodies and name not in kinds
            and any([name in lines[kind] for kind in kinds])]


def shows_chain(registry, call, kinds, paper, *, lost=False):
    """Return whether any value is a paper about a chain that holds."""
    _check_chain(registry, call, kinds)
    if not isinstance(paper, tuple) or not 2 <= len(paper) <= 3:
        return False
    lines = lines_of(registry)
    bodies = bodies_of(registry, call)
    lists = lists_of(kinds, lines)
    others = [kind for kind in lines if (kind, call) in bodies and kind not in kinds]
    if len(paper) == 3:
        return paper[0] == "between" and _are_around(lists, paper[1], paper[2], kinds, others)
    word, proof = paper
    if word == "can":
        return _is_possible(line_or_none(proof, lines), call, kinds, bodies, lost)
    if word == "ring":
        return is_ring(lists, proof)
    return word == "after" and lost and _leads(lists, proof, kinds, others)


def _check_chain(registry, call, kinds):
    """Raise NoCall or NoChain if any values are not a call name and a chain for it."""
    check_call(call)
    if not isinstance(kinds, tuple) or not 2 <= len(kinds) <= MOST_OF_A_CHAIN:
        raise NoChain(-1)
    for at, kind in enumerate(kinds):
        if not registry.has(kind) or kind in kinds[:at]:
            raise NoChain(at)
        if at > 0 and registry.body(kind, call) is None:
            raise NoChain(at)


def _is_possible(line, call, kinds, bodies, lost):
    """Return whether a chain is possible in a future line, and ends lost if that is asked."""
    if line is None or not all([kind in line for kind in kinds]):
        return False
    found = [next_kind(line, kind, call, bodies) for kind in kinds]
    if lost and found[-1] is not None:
        return False
    return found[:-1] == list(kinds[1:])


def _leads(lists, thing, starts, goals):
    """Return whether any value is a road of the lists from one of the starts to one of the goals."""
    return is_road(lists, thing) and thing[0][0] in starts and thing[-1][1] in goals


def _are_around(lists, road, other, kinds, others):
    """Return whether any values are a road from a chain to another kind and one from it back to the chain."""
    return _leads(lists, road, kinds, others) and _leads(lists, other, [road[-1][1]], kinds)

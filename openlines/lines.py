"""The merge of lists, and the rings of demands that forbid a merge."""

from openlines.errors import NoMerge
from openlines.names import is_integer


def merged(lists):
    """Return the merge of the lists, a tuple.

    Raises NoMerge with the least of the shortest rings if they have none.
    """
    result = merge_or_none(lists)
    if result is None:
        raise NoMerge(_least_ring(lists))
    return result


def merge_or_none(lists):
    """Return the merge of the lists, a tuple, None if they have none."""
    names, left = _taken(lists)
    return None if left else names


def any_ring(lists):
    """Return a ring of the lists, perhaps not a shortest one, None if they have a merge."""
    firsts = [names[0] for names in _taken(lists)[1]]
    if not firsts:
        return None
    # None of the first names can be taken, so each stands behind another one and the way back comes round.
    ways = {}
    name = firsts[0]
    while name not in ways:
        ways[name] = _demand_on(name, lists, firsts)
        name = ways[name][0]
    ring = (ways[name],)
    while ring[0][0] != name:
        ring = (ways[ring[0][0]],) + ring
    return ring


def is_ring(lists, thing):
    """Return whether any value is a ring of the lists, shortest or not."""
    # One demand never closes a ring, as its two names differ.
    return is_road(lists, thing) and thing[-1][1] == thing[0][0]


def is_road(lists, thing):
    """Return whether any value is a road of the lists: demands, each behind the one before."""
    if not isinstance(thing, tuple) or not thing:
        return False
    before = None
    for row in thing:
        if not is_demand(lists, row):
            return False
        if before is not None and row[0] != before:
            return False
        before = row[1]
    return True


def is_demand(lists, thing):
    """Return whether any value is a demand of the lists."""
    if not isinstance(thing, tuple) or len(thing) != 3:
        return False
    first, second, at = thing
    if not is_integer(at) or not 0 <= at < len(lists):
        return False
    return stands_ahead(lists[at], first, second)


def stands_ahead(names, first, second):
    """Return whether any values are two of the names, the first one ahead of the second one."""
    return first in names and second in names and names.index(first) < names.index(second)


def _taken(lists):
    """Return the names that can be taken, a tuple, and what is left of the lists behind that."""
    taken = ()
    left = [names for names in lists if names]
    while len(left) > 1:
        name = _free_name(left)
        if name is None:
            return taken, left
        taken = taken + (name,)
        further = []
        for names in left:
            if names[0] != name:
                further.append(names)
            elif len(names) > 1:
                further.append(names[1:])
        left = further
    # One list alone is taken as it is.
    for names in left:
        taken = taken + names
    return taken, []


def _free_name(lists):
    """Return the name that is taken next, None if no name can be taken. No list is empty."""
    for names in lists:
        name = names[0]
        for other in lists:
            if name in other and name != other[0]:
                break
        else:
            return name
    return None


def _demand_on(name, lists, firsts):
    """Return a demand of the lists that one of the first names stands before a name."""
    for at, names in enumerate(lists):
        if name in names:
            for first in names[:names.index(name)]:
                if first in firsts:
                    return (first, name, at)
    return None


def _least_ring(lists):
    """Return the least of the shortest rings of lists that have no merge."""
    seconds = _seconds(lists)
    ends = {name: 1 << at for at, name in enumerate(seconds)}
    layers = [ends]
    start = None
    while start is None:
        layers.append(_one_demand_more(seconds, layers[-1]))
        start = _least_closed(ends, layers[-1])
    return _ring_from(start, seconds, layers)


def _seconds(lists):
    """Return for each name the second names of its demands.

    Each stands with the index of the first list that demands it. A greater
    index never makes a ring less, so the others are not needed.
    """
    seconds = {}
    for at, names in enumerate(lists):
        for place, first in enumerate(names):
            row = seconds.setdefault(first, {})
            for second in names[place + 1:]:
                row.setdefault(second, at)
    return seconds


def _one_demand_more(seconds, layer):
    """Return the layer behind a layer.

    The layer number k tells for each name where k demands, one behind the
    other, can lead from it: an integer with a bit for each such name. Bits
    keep this short for all names at once.
    """
    result = {}
    for first in seconds:
        ends = 0
        for second in seconds[first]:
            ends = ends | layer[second]
        result[first] = ends
    return result


def _least_closed(ends, layer):
    """Return the least name that the layer leads back to itself, or None."""
    return min([name for name in ends if layer[name] & ends[name]], default=None)


def _ring_from(start, seconds, layers):
    """Return the least ring of as many demands as there are further layers.

    It begins at the start. The second name of each demand is the least one
    from which the demands that are left still lead back.
    """
    goal = layers[0][start]
    ring = []
    first = start
    for layer in reversed(layers[:-1]):
        second = min([name for name in seconds[first] if layer[name] & goal])
        ring.append((first, second, seconds[first][second]))
        first = second
    return tuple(ring)

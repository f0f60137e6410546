"""The merge of lists, and the rings of demands that forbid a merge."""

from openlines.errors import NoMerge
from openlines.names import is_integer


def merged(lists):
    """Return the merge of the lists, a tuple.

    Raises NoMerge with the least of the shortest rings if they have none.
    """
    result = merge_or_none(lists)
    if result is None:
        raise NoMerge(_least_ring(lists))
    return result


def merge_or_none(lists):
    """Return the merge of the lists, a tuple, None if they have none."""
    behind = _times_behind(lists)
    starts = [0] * len(lists)
    result = []
    while len(result) < len(behind):
        name = _free_name(lists, starts, behind)
        if name is None:
            return None
        result.append(name)
        _take(name, lists, starts, behind)
    return tuple(result)


def is_ring(lists, thing):
    """Return whether any value is a ring of the lists, shortest or not."""
    # One demand never closes a ring, as its two names differ.
    return is_road(lists, thing) and thing[-1][1] == thing[0][0]


def is_road(lists, thing):
    """Return whether any value is a road of the lists: demands, each behind the one before."""
    if not isinstance(thing, tuple) or not thing:
        return False
    if not all([is_demand(lists, row) for row in thing]):
        return False
    return all([thing[at - 1][1] == thing[at][0] for at in range(1, len(thing))])


def is_demand(lists, thing):
    """Return whether any value is a demand of the lists."""
    if not isinstance(thing, tuple) or len(thing) != 3:
        return False
    first, second, at = thing
    if not is_integer(at) or not 0 <= at < len(lists):
        return False
    names = lists[at]
    if first not in names or second not in names:
        return False
    return names.index(first) < names.index(second)


def _times_behind(lists):
    """Return for each name how many lists have it behind their first name."""
    behind = {}
    for names in lists:
        for name in names[:1]:
            behind.setdefault(name, 0)
        for name in names[1:]:
            behind[name] = behind.get(name, 0) + 1
    return behind


def _free_name(lists, starts, behind):
    """Return the name that is taken next, None if no name can be taken.

    What is left of a list begins at its start.
    """
    for names, start in zip(lists, starts):
        if start < len(names) and behind[names[start]] == 0:
            return names[start]
    return None


def _take(name, lists, starts, behind):
    """Remove a free name from what is left of the lists."""
    for at, names in enumerate(lists):
        start = starts[at]
        # A free name is behind no first name, so only the starts can be it.
        if start < len(names) and names[start] == name:
            starts[at] = start + 1
            for other in names[start + 1:start + 2]:
                behind[other] = behind[other] - 1


def _least_ring(lists):
    """Return the least of the shortest rings of lists that have no merge."""
    seconds = _seconds(lists)
    ends = {name: 1 << at for at, name in enumerate(seconds)}
    layers = [ends]
    start = None
    while start is None:
        layers.append(_one_demand_more(seconds, layers[-1]))
        start = _least_closed(ends, layers[-1])
    return _ring_from(start, seconds, layers)


def _seconds(lists):
    """Return for each name the second names of its demands.

    Each stands with the index of the first list that demands it. A greater
    index never makes a ring less, so the others are not needed.
    """
    seconds = {}
    for at, names in enumerate(lists):
        for place, first in enumerate(names):
            row = seconds.setdefault(first, {})
            for second in names[place + 1:]:
                row.setdefault(second, at)
    return seconds


def _one_demand_more(seconds, layer):
    """Return the layer behind a layer.

    The layer number k tells for each name where k demands, one behind the
    other, can lead from it: an integer with a bit for each such name. Bits
    keep this short for all names at once.
    """
    result = {}
    for first in seconds:
        ends = 0
        for second in seconds[first]:
            ends = ends | layer[second]
        result[first] = ends
    return result


def _least_closed(ends, layer):
    """Return the least name that the layer leads back to itself, or None."""
    return min([name for name in ends if layer[name] & ends[name]], default=None)


def _ring_from(start, seconds, layers):
    """Return the least ring of as many demands as there are further layers.

    It begins at the start. The second name of each demand is the least one
    from which the demands that are left still lead back.
    """
    goal = layers[0][start]
    ring = []
    first = start
    for layer in reversed(layers[:-1]):
        second = min([name for name in seconds[first] if layer[name] & goal])
        ring.append((first, second, seconds[first][second]))
        first = second
    return tuple(ring)

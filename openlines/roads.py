"""Roads of demands from name to name."""


def road_to(lists, starts, goals):
    """Return a shortest road of the lists from one of the starts to one of the goals, or None."""
    roads = {start: () for start in starts}
    layer = list(starts)
    while layer:
        further = []
        for first in layer:
            for demand in demands_of(lists, first):
                if demand[1] not in roads:
                    roads[demand[1]] = roads[first] + (demand,)
                    further.append(demand[1])
        for name in further:
            if name in goals:
                return roads[name]
        layer = further
    return None


def demands_of(lists, first):
    """Return the demands of the lists with a first name, a list."""
    return [(first, second, at) for at, names in enumerate(lists) if first in names
            for second in names[names.index(first) + 1:]]

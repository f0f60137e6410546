"""What is kept of a base list that has no line, and what tells two registries apart."""

from openlines.building import check_future_bases, line_with, lists_of
from openlines.errors import NoRegistry
from openlines.lines import any_ring, is_ring, merge_or_none
from openlines.registry import Registry
from openlines.views import lines_of


def kept(registry, bases):
    """Return (part, rings): the least of the greatest parts that are future lists, and why no greater one is."""
    lines = lines_of(registry)
    check_future_bases(bases, lines)
    greater = []
    parts = [bases]
    part = _first_with_line(parts, lines)
    while part is None:
        greater = parts
        parts = parts_of(bases, len(greater[0]) - 1)
        part = _first_with_line(parts, lines)
    return (part, tuple([(wrong, any_ring(lists_of(wrong, lines))) for wrong in greater]))


def _first_with_line(parts, lines):
    """Return the first of the parts that is a future list, None if there is none."""
    for part in parts:
        if merge_or_none(lists_of(part, lines)) is not None:
            return part
    return None


def shows_kept(registry, bases, paper):
    """Return whether any value is a part that is a future list, and why no greater one is."""
    lines = lines_of(registry)
    check_future_bases(bases, lines)
    if not isinstance(paper, tuple) or len(paper) != 2:
        return False
    part, rings = paper
    if line_with(part, (), lines) is None or part != tuple([kind for kind in bases if kind in part]):
        return False
    greater = parts_of(bases, len(part) + 1)
    if not isinstance(rings, tuple) or len(rings) != len(greater):
        return False
    return all([_has_ring(row, wrong, lines) for row, wrong in zip(rings, greater)])


def _has_ring(thing, part, lines):
    """Return whether any value is a part with a ring of its lists."""
    if not isinstance(thing, tuple) or len(thing) != 2:
        return False
    return thing[0] == part and is_ring(lists_of(part, lines), thing[1])


def parts_of(bases, many):
    """Return the parts of a base list that have so many kinds, a list, ascending."""
    begun = [()]
    for at, kind in enumerate(bases):
        with_it = [part + (kind,) for part in begun if len(part) < many]
        # What has too few kinds for those that are left can no longer become a part.
        begun = [part for part in begun + with_it if len(part) + len(bases) - at > many]
    return sorted(begun)


def ordered(registry, bases):
    """Return the least order of the kinds that is a future list, or a ring of their lines."""
    lines = lines_of(registry)
    check_future_bases(bases, lines)
    lists = tuple([lines[base] for base in bases])
    ring = any_ring(lists)
    if ring is not None:
        return ("ring", ring)
    ahead = _names_ahead(lists)
    order = ()
    while len(order) < len(bases):
        left = [base for base in bases if base not in order]
        order = order + (min([base for base in left if not any([name in ahead[base] for name in left])]),)
    return ("order", order)


def _names_ahead(lists):
    """Return for each name the names from which a road leads to it: a dict of dicts."""
    ahead = {}
    for name in merge_or_none(lists):
        found = {}
        for names in lists:
            if name in names[1:]:
                # All that is ahead of the name before is ahead of this one, too.
                before = names[names.index(name) - 1]
                found[before] = True
                found.update(ahead[before])
        ahead[name] = found
    return ahead


def telling(one, other):
    """Return the least of the shortest tuples that are a future list in one of two registries only, or None."""
    if not isinstance(one, Registry) or not isinstance(other, Registry):
        raise NoRegistry()
    mine = lines_of(one)
    theirs = lines_of(other)
    # If the lines are equal, so are the future lists, of which there may be very many.
    if mine == theirs:
        return None
    names = sorted(list(mine) + [name for name in theirs if name not in mine])
    begun = [()]
    while begun:
        further = []
        for bases in [start + (name,) for start in begun for name in names if name not in start]:
            is_mine = line_with(bases, (), mine) is not None
            if is_mine != (line_with(bases, (), theirs) is not None):
                return bases
            if is_mine:
                further.append(bases)
        # A list that begins with no future list is none either.
        begun = further
    return None

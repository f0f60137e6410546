"""Tables that are not changed but replaced, so that an older one can be kept."""


def with_item(table, key, worth):
    """Return a new dict with an item that is new or has another value."""
    result = {old: table[old] for old in table}
    result[key] = worth
    return result


def without(table, keys):
    """Return a new dict without some keys."""
    return {old: table[old] for old in table if old not in keys}

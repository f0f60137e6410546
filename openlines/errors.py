"""The errors of the package, one class for each kind of failure.

The fields of an error are its arguments. The bases stay Python's own text of
an error, so that each error shows the values that it was made of.
"""


class NoName(ValueError):
    """What was passed is not a name."""

    def __init__(self, name):
        self.name = name


class NoBases(ValueError):
    """What was passed are not bases: -1, or the index of the first wrong item."""

    def __init__(self, at):
        self.at = at


class NoLine(ValueError):
    """The lists of a kind have no merge, as the ring shows."""

    def __init__(self, kind, ring):
        self.kind = kind
        self.ring = ring


class NoMerge(ValueError):
    """Lists have no merge, as the ring shows."""

    def __init__(self, ring):
        self.ring = ring


class NoCall(ValueError):
    """What was passed for a call is not a name."""

    def __init__(self, call):
        self.call = call


class NoBody(ValueError):
    """What was passed is not a body: -1, or the index of the first wrong row."""

    def __init__(self, at):
        self.at = at


class NoChain(ValueError):
    """What was passed is not a chain: -1, or the index of the first wrong item."""

    def __init__(self, at):
        self.at = at


class NoRegistry(ValueError):
    """What was passed is not a registry."""


class NoText(ValueError):
    """What was passed is not so written: -1, or the index of the first wrong part."""

    def __init__(self, at):
        self.at = at


class NoCommand(ValueError):
    """What was passed is not a command of a desk."""


class NoKind(KeyError):
    """What was passed is not a kind."""

    def __init__(self, name):
        self.name = name


class NoObject(KeyError):
    """What was passed is not the number of an object."""

    def __init__(self, number):
        self.number = number


class NoOpen(KeyError):
    """What was passed is not the number of a call that is not over."""

    def __init__(self, number):
        self.number = number


class Absent(LookupError):
    """The kind has no body for the call."""

    def __init__(self, kind, call):
        self.kind = kind
        self.call = call


class NoDefiner(LookupError):
    """What was passed for a definer is not in the line."""

    def __init__(self, definer):
        self.definer = definer


class Taken(RuntimeError):
    """There is a kind with this name."""

    def __init__(self, name):
        self.name = name


class InUse(RuntimeError):
    """The kind is a base of a kind, or an object has it."""

    def __init__(self, name):
        self.name = name


class Busy(RuntimeError):
    """A call that is not over is on the object."""

    def __init__(self, number):
        self.number = number


class Nothing(RuntimeError):
    """There is no deed to take back."""


class TooMany(OverflowError):
    """There would be more than the bound allows."""


class TooLong(OverflowError):
    """More bodies would be run than the bound allows."""


class TooDeep(OverflowError):
    """More bodies would be on the stack of the call than the bound allows."""

    def __init__(self, number):
        self.number = number

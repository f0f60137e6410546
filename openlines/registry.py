"""The registry: kinds and their bodies, cached lookups, objects and open calls."""

from openlines.building import check_bases, new_line, new_lines
from openlines.errors import (
    Absent, Busy, InUse, NoBody, NoDefiner, NoKind, NoName, NoObject, NoOpen, Nothing, Taken, TooDeep, TooMany,
)
from openlines.lookups import first_kind, in_order, is_still_right, next_kind
from openlines.names import check_call, is_integer, is_name
from openlines.opencalls import after_step, first_difference, rest_of
from openlines.rows import wrong_row
from openlines.tables import with_item, without

MOST_BODIES_OF_A_KIND = 4
MOST_BODIES_FOR_A_CALL = 6
MOST_OBJECTS = 12
MOST_CALLS = 8
MOST_OPEN_BODIES = 40


class Registry:
    """Kinds that are built on other kinds, objects that have them, and open calls.

    The tables are dicts. By kind: its bases, and its line. By (kind, call):
    the rows of the body. By number: the kind of an object; the object, the
    call name and the stack of an open call. A deed replaces tables and never
    changes one, so that undo only has to bring back those of before.
    """

    MOST_KINDS = 10

    def __init__(self):
        self._bases = {}
        self._lines = {}
        self._bodies = {}
        self._objects = {}
        self._opened = {}
        self._next_object = 0
        self._next_call = 0
        self._past = []
        self._cache = {}

    def __eq__(self, other):
        return (isinstance(other, Registry) and self._bases == other._bases and self._bodies == other._bodies
                and self._objects == other._objects)

    def __len__(self):
        return len(self._bases)

    def __repr__(self):
        return f"Registry({len(self._bases)} kinds, {len(self._bodies)} bodies)"

    def add(self, name, bases=()):
        """Add a kind without bodies; return the dropped keys of the cache."""
        if not is_name(name):
            raise NoName(name)
        if name in self._bases:
            raise Taken(name)
        check_bases(bases, self.kinds())
        if len(self._bases) >= self.MOST_KINDS:
            raise TooMany()
        line = new_line(name, bases, self._lines)
        self._keep(True)
        self._bases = with_item(self._bases, name, bases)
        self._lines = with_item(self._lines, name, line)
        return self._drop_wrong()

    def rebase(self, name, bases):
        """Give a kind other bases; return the dropped keys of the cache."""
        self._check_kind(name)
        changed = [name] + self.below(name)
        check_bases(bases, [kind for kind in self._bases if kind not in changed])
        table = with_item(self._bases, name, bases)
        lines = new_lines(changed, table, self._lines)
        self._keep(True)
        self._bases = table
        self._lines = lines
        return self._drop_wrong()

    def drop(self, name):
        """Remove a kind with its bodies; return the dropped keys of the cache."""
        self._check_kind(name)
        used = [base for kind in self._bases for base in self._bases[kind]] + list(self._objects.values())
        if name in used:
            raise InUse(name)
        self._keep(True)
        self._bases = without(self._bases, [name])
        self._lines = without(self._lines, [name])
        self._bodies = without(self._bodies, [key for key in self._bodies if key[0] == name])
        return self._drop_wrong()

    def set_body(self, kind, call, body):
        """Give a kind a body for a call; return the dropped keys of the cache."""
        self._check_kind(kind)
        check_call(call)
        at = wrong_row(call, body)
        if at is not None:
            raise NoBody(at)
        others = [key for key in self._bodies if key != (kind, call)]
        of_the_kind = [key for key in others if key[0] == kind]
        for_the_call = [key for key in others if key[1] == call]
        if len(of_the_kind) >= MOST_BODIES_OF_A_KIND or len(for_the_call) >= MOST_BODIES_FOR_A_CALL:
            raise TooMany()
        self._keep(True)
        self._bodies = with_item(self._bodies, (kind, call), body)
        return self._drop_wrong()

    def clear_body(self, kind, call):
        """Remove a body; return the dropped keys of the cache."""
        self._check_kind(kind)
        if not is_name(call) or (kind, call) not in self._bodies:
            raise Absent(kind, call)
        self._keep(True)
        self._bodies = without(self._bodies, [(kind, call)])
        return self._drop_wrong()

    def undo(self):
        """Take back the last deed; return the dropped keys of the cache."""
        if not self._past:
            raise Nothing()
        (is_edit, self._bases, self._lines, self._bodies, self._objects, self._opened,
         self._next_object, self._next_call) = self._past.pop()
        return self._drop_wrong() if is_edit else []

    def _keep(self, is_edit):
        """Keep the present tables ahead of a deed."""
        self._past.append((is_edit, self._bases, self._lines, self._bodies, self._objects, self._opened,
                           self._next_object, self._next_call))

    def _drop_wrong(self):
        """Drop the keys of the cache whose lookup is no longer as it was; return them."""
        wrong = [key for key in self._cache
                 if not is_still_right(key, self._cache[key], self._lines, self._bodies)]
        for key in wrong:
            del self._cache[key]
        return in_order(wrong)

    def kinds(self):
        """Return the names of all kinds, ascending."""
        return sorted(self._bases)

    def bases(self, kind):
        """Return the bases of a kind, a tuple."""
        self._check_kind(kind)
        return self._bases[kind]

    def line(self, kind):
        """Return the line of a kind, a tuple."""
        self._check_kind(kind)
        return self._lines[kind]

    def calls(self, kind):
        """Return the call names for which a kind has a body, ascending."""
        self._check_kind(kind)
        return sorted([key[1] for key in self._bodies if key[0] == kind])

    def body(self, kind, call):
        """Return the body of a kind for a call, None if it has none."""
        self._check_kind(kind)
        check_call(call)
        return self._bodies.get((kind, call))

    def below(self, kind):
        """Return the kinds that are below a kind, ascending."""
        self._check_kind(kind)
        return sorted([name for name in self._lines if kind in self._lines[name][1:]])

    def has(self, thing):
        """Return whether any value is a kind."""
        return isinstance(thing, str) and thing in self._bases

    @property
    def deeds(self):
        """The number of deeds that undo can take back."""
        return len(self._past)

    @staticmethod
    def is_name(thing):
        """Return whether any value is a name."""
        return is_name(thing)

    @classmethod
    def built(cls, rows):
        """Return a new registry to which kinds are added: rows of (name, bases)."""
        registry = cls()
        for name, bases in rows:
            registry.add(name, bases)
        return registry

    def _check_kind(self, thing):
        """Raise NoKind if any value is not a kind."""
        if not self.has(thing):
            raise NoKind(thing)

    def first(self, kind, call):
        """Return the kind of the first body for a call, None if there is none."""
        self._check_kind(kind)
        check_call(call)
        key = (kind, call)
        if key not in self._cache:
            self._cache[key] = first_kind(self._lines[kind], call, self._bodies)
        return self._cache[key]

    def following(self, kind, definer, call):
        """Return the kind of the next body behind a definer in the line, None if there is none."""
        self._check_kind(kind)
        if definer not in self._lines[kind]:
            raise NoDefiner(definer)
        check_call(call)
        key = (kind, definer, call)
        if key not in self._cache:
            self._cache[key] = next_kind(self._lines[kind], definer, call, self._bodies)
        return self._cache[key]

    def cached(self):
        """Return what is in the cache: a list of tuples (key, answer)."""
        return [(key, self._cache[key]) for key in in_order(list(self._cache))]

    def run(self, kind, call):
        """Return the events of a call on a kind, a list."""
        self._check_kind(kind)
        check_call(call)
        return rest_of(self._lines[kind], self._bodies, call, ())

    def make(self, kind):
        """Make an object of a kind; return its number."""
        self._check_kind(kind)
        if len(self._objects) >= MOST_OBJECTS:
            raise TooMany()
        self._keep(False)
        number = self._next_object
        self._objects = with_item(self._objects, number, kind)
        self._next_object = number + 1
        return number

    def move(self, number, kind):
        """Give an object another kind, perhaps the same."""
        self._check_object(number)
        self._check_kind(kind)
        self._keep(False)
        self._objects = with_item(self._objects, number, kind)

    def discard(self, number):
        """Remove an object."""
        self._check_object(number)
        if number in [begun[0] for begun in self._opened.values()]:
            raise Busy(number)
        self._keep(False)
        self._objects = without(self._objects, [number])

    def objects(self):
        """Return a list of tuples (number, kind), ascending."""
        return sorted(self._objects.items())

    def _check_object(self, thing):
        """Raise NoObject if any value is not the number of an object."""
        if not is_integer(thing) or thing not in self._objects:
            raise NoObject(thing)

    def begin(self, number, call):
        """Open a call on an object; return the number of the call."""
        self._check_object(number)
        check_call(call)
        if len(self._opened) >= MOST_CALLS:
            raise TooMany()
        self._keep(False)
        begun = self._next_call
        self._opened = with_item(self._opened, begun, (number, call, ()))
        self._next_call = begun + 1
        return begun

    def step(self, number):
        """Do one step of an open call; return its event."""
        self._check_open(number)
        owner, call, stack = self._opened[number]
        event, after = after_step(self._lines[self._objects[owner]], self._bodies, call, stack)
        if len(after) > MOST_OPEN_BODIES:
            raise TooDeep(number)
        self._keep(False)
        # A stack that is empty behind a step means that the call is over.
        if after:
            self._opened = with_item(self._opened, number, (owner, call, after))
        else:
            self._opened = without(self._opened, [number])
        return event

    def steps(self, number):
        """Yield the events of the steps, each done when it is asked for, until the call is over."""
        self._check_open(number)
        while number in self._opened:
            yield self.step(number)

    def stop(self, number):
        """End an open call."""
        self._check_open(number)
        self._keep(False)
        self._opened = without(self._opened, [number])

    def opened(self):
        """Return a list of tuples (number, object, call), ascending."""
        return sorted([(number, self._opened[number][0], self._opened[number][1]) for number in self._opened])

    def stack(self, number):
        """Return the open bodies of a call, tuples (definer, call, row), the first entered one ahead."""
        self._check_open(number)
        return [(definer, call, row) for definer, call, row, _ in self._opened[number][2]]

    def rest(self, number):
        """Return the events "say" and "lost" that an open call would still return, a list."""
        self._check_open(number)
        return self._rest_as(number, self._objects[self._opened[number][0]])

    def difference(self, number, kind):
        """Return the index at which the rest would be another one if the object had the kind."""
        self._check_open(number)
        self._check_kind(kind)
        now = self._rest_as(number, self._objects[self._opened[number][0]])
        return first_difference(now, self._rest_as(number, kind))

    def _check_open(self, thing):
        """Raise NoOpen if any value is not the number of an open call."""
        if not is_integer(thing) or thing not in self._opened:
            raise NoOpen(thing)

    def _rest_as(self, number, kind):
        """Return the rest that an open call would have if its object had the kind."""
        _, call, stack = self._opened[number]
        return rest_of(self._lines[kind], self._bodies, call, stack)


def forget_past(registry):
    """Let nothing that was done in a registry be taken back."""
    registry._past = []

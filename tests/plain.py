"""The document word for word: slow, and without the package. The tests compare the package with it."""

import itertools
import re


def plain_merge(lists):
    """The merge, word for word as the document tells it; None if there is none."""
    lists = [list(names) for names in lists]
    result = []
    while any(lists):
        for names in lists:
            if names and not any([names[0] in other[1:] for other in lists]):
                break
        else:
            return None
        name = names[0]
        result.append(name)
        lists = [[other for other in names if other != name] for names in lists]
    return tuple(result)


def plain_demands(lists):
    """All demands of the lists, ascending."""
    return sorted([(names[one], names[two], at) for at, names in enumerate(lists)
                   for two in range(len(names)) for one in range(two)])


def plain_rings(demands, many, begun=()):
    """Yield all rings of so many demands, ascending."""
    if len(begun) == many:
        if begun[-1][1] == begun[0][0]:
            yield begun
        return
    for demand in demands:
        if not begun or begun[-1][1] == demand[0]:
            yield from plain_rings(demands, many, begun + (demand,))


def plain_least_ring(lists):
    """The least of the shortest rings; None if there is none."""
    demands = plain_demands(lists)
    for many in range(2, len(lists) + 1):
        for ring in plain_rings(demands, many):
            return ring
    return None


def plainly_road(lists, thing):
    """Whether any value is a road, told apart from True and 1 by repr."""
    demands = [repr(demand) for demand in plain_demands(lists)]
    if not isinstance(thing, tuple) or len(thing) < 1:
        return False
    if not all([repr(row) in demands for row in thing]):
        return False
    return [row[1] for row in thing[:-1]] == [row[0] for row in thing[1:]]


def plainly_ring(lists, thing):
    """Whether any value is a ring."""
    return plainly_road(lists, thing) and len(thing) > 1 and thing[-1][1] == thing[0][0]


def plainly_name(thing):
    return isinstance(thing, str) and re.fullmatch("[a-z]{1,8}", thing) is not None


def plainly_row(call, row):
    if not isinstance(row, tuple):
        return False
    if len(row) == 1 and isinstance(row[0], str):
        return row[0] == "next"
    if len(row) != 2 or not isinstance(row[0], str) or not plainly_name(row[1]):
        return False
    return row[0] == "say" or row[0] == "call" and row[1] > call


class Refused(Exception):
    """An error: the name of its class, and its fields."""

    def __init__(self, word, **fields):
        Exception.__init__(self, word, fields)
        self.word = word
        self.fields = fields


def in_cache_order(keys):
    return sorted([key for key in keys if len(key) == 2]) + sorted([key for key in keys if len(key) == 3])


class Plain:
    """A registry that keeps its deeds: to undo the last one, it does all others anew."""

    EDITS = ("add", "rebase", "drop", "set_body", "clear_body")

    def __init__(self):
        self.past = []
        self.cache = {}
        self.begin_anew()

    def begin_anew(self):
        self.bases_of = {}
        self.rows_of = {}
        self.kind_of = {}
        self.open_calls = {}
        self.made = 0
        self.begun = 0

    def did(self, word, *told):
        """Keep a deed; return the dropped keys."""
        self.past.append((word, told))
        return self.dropped()

    def dropped(self):
        gone = in_cache_order([key for key, answer in self.cache.items() if not self.finds(key, answer)])
        for key in gone:
            del self.cache[key]
        return gone

    def finds(self, key, answer):
        try:
            return (self.first_of(*key) if len(key) == 2 else self.following_of(*key)) == answer
        except Refused:
            return False

    # what is asked of arguments

    def is_kind(self, thing):
        return isinstance(thing, str) and thing in self.bases_of

    def ask_kind(self, thing):
        if not self.is_kind(thing):
            raise Refused("NoKind", name=thing)

    def ask_call(self, thing):
        if not plainly_name(thing):
            raise Refused("NoCall", call=thing)

    def ask_object(self, thing):
        if type(thing) is not int or thing not in self.kind_of:
            raise Refused("NoObject", number=thing)

    def ask_open(self, thing):
        if type(thing) is not int or thing not in self.open_calls:
            raise Refused("NoOpen", number=thing)

    def ask_bases(self, bases, barred=()):
        if type(bases) is not tuple or len(bases) > 10:
            raise Refused("NoBases", at=-1)
        for at, base in enumerate(bases):
            if not self.is_kind(base) or base in barred or bases.index(base) < at:
                raise Refused("NoBases", at=at)

    # lines

    def line(self, kind):
        self.ask_kind(kind)
        return (kind,) + plain_merge(self.lists(self.bases_of[kind]))

    def lists(self, bases):
        return tuple([self.line(base) for base in bases]) + (bases,)

    def below(self, kind):
        self.ask_kind(kind)
        return sorted([name for name in self.bases_of if name != kind and kind in self.line(name)])

    # edits

    def add(self, name, bases=()):
        if not plainly_name(name):
            raise Refused("NoName", name=name)
        if name in self.bases_of:
            raise Refused("Taken", name=name)
        self.ask_bases(bases)
        if len(self.bases_of) == 10:
            raise Refused("TooMany")
        if plain_merge(self.lists(bases)) is None:
            raise Refused("NoLine", kind=name, ring=plain_least_ring(self.lists(bases)))
        self.bases_of[name] = bases
        return self.did("add", name, bases)

    def rebase(self, name, bases):
        self.ask_kind(name)
        self.ask_bases(bases, [name] + self.below(name))
        changed = [name] + self.below(name)
        before = self.bases_of[name]
        self.bases_of[name] = bases
        ready = [kind for kind in self.bases_of if kind not in changed]
        while len(ready) < len(self.bases_of):
            kind = min([kind for kind in changed if kind not in ready and set(self.bases_of[kind]) <= set(ready)])
            lists = self.lists(self.bases_of[kind])
            if plain_merge(lists) is None:
                self.bases_of[name] = before
                raise Refused("NoLine", kind=kind, ring=plain_least_ring(lists))
            ready.append(kind)
        return self.did("rebase", name, bases)

    def drop(self, name):
        self.ask_kind(name)
        if any([name in bases for bases in self.bases_of.values()]) or name in self.kind_of.values():
            raise Refused("InUse", name=name)
        del self.bases_of[name]
        self.rows_of = {key: rows for key, rows in self.rows_of.items() if key[0] != name}
        return self.did("drop", name)

    def set_body(self, kind, call, body):
        self.ask_kind(kind)
        self.ask_call(call)
        if type(body) is not tuple or len(body) > 6:
            raise Refused("NoBody", at=-1)
        for at, row in enumerate(body):
            if not plainly_row(call, row):
                raise Refused("NoBody", at=at)
        if (kind, call) not in self.rows_of:
            if [key[0] for key in self.rows_of].count(kind) == 4 or [key[1] for key in self.rows_of].count(call) == 6:
                raise Refused("TooMany")
        self.rows_of[kind, call] = body
        return self.did("set_body", kind, call, body)

    def clear_body(self, kind, call):
        self.ask_kind(kind)
        if not plainly_name(call) or (kind, call) not in self.rows_of:
            raise Refused("Absent", kind=kind, call=call)
        del self.rows_of[kind, call]
        return self.did("clear_body", kind, call)

    def undo(self):
        if not self.past:
            raise Refused("Nothing")
        word, past = self.past[-1][0], self.past[:-1]
        cache = self.cache
        self.begin_anew()
        self.past = []
        self.cache = {}
        for name, told in past:
            getattr(self, name)(*told)
        self.cache = cache
        dropped = self.dropped()
        assert word in self.EDITS or dropped == []
        return dropped

    # reading

    def kinds(self):
        return sorted(self.bases_of)

    def bases(self, kind):
        self.ask_kind(kind)
        return self.bases_of[kind]

    def calls(self, kind):
        self.ask_kind(kind)
        return sorted([call for name, call in self.rows_of if name == kind])

    def body(self, kind, call):
        self.ask_kind(kind)
        self.ask_call(call)
        return self.rows_of.get((kind, call))

    def has(self, thing):
        return self.is_kind(thing)

    # lookups

    def first_of(self, kind, call):
        self.ask_kind(kind)
        self.ask_call(call)
        return next(iter([name for name in self.line(kind) if (name, call) in self.rows_of]), None)

    def following_of(self, kind, definer, call):
        self.ask_kind(kind)
        line = self.line(kind)
        if not isinstance(definer, str) or definer not in line:
            raise Refused("NoDefiner", definer=definer)
        self.ask_call(call)
        return next(iter([name for name in line[line.index(definer) + 1:] if (name, call) in self.rows_of]), None)

    def first(self, kind, call):
        self.cache[kind, call] = self.first_of(kind, call)
        return self.cache[kind, call]

    def following(self, kind, definer, call):
        answer = self.following_of(kind, definer, call)
        self.cache[kind, definer, call] = answer
        return answer

    def cached(self):
        return [(key, self.cache[key]) for key in in_cache_order(self.cache)]

    def run(self, kind, call):
        self.ask_kind(kind)
        self.ask_call(call)
        events, count = [], [0]
        self.run_body(kind, self.first_of(kind, call), None, call, events, count)
        return events

    def run_body(self, kind, found, asking, call, events, count):
        """Run the body of the found kind, for a body of the asking kind."""
        if found is None:
            events.append(("lost", asking, call))
            return
        count[0] += 1
        if count[0] > 400:
            raise Refused("TooLong")
        for row in self.rows_of[found, call]:
            if row[0] == "say":
                events.append(("say", found, row[1]))
            elif row[0] == "next":
                self.run_body(kind, self.following_of(kind, found, call), found, call, events, count)
            else:
                self.run_body(kind, self.first_of(kind, row[1]), found, row[1], events, count)

    # objects

    def make(self, kind):
        self.ask_kind(kind)
        if len(self.kind_of) == 12:
            raise Refused("TooMany")
        self.kind_of[self.made] = kind
        self.made += 1
        self.did("make", kind)
        return self.made - 1

    def move(self, number, kind):
        self.ask_object(number)
        self.ask_kind(kind)
        self.kind_of[number] = kind
        self.did("move", number, kind)

    def discard(self, number):
        self.ask_object(number)
        if any([held["object"] == number for held in self.open_calls.values()]):
            raise Refused("Busy", number=number)
        del self.kind_of[number]
        self.did("discard", number)

    def objects(self):
        return sorted(self.kind_of.items())

    # open calls

    def begin(self, number, call):
        self.ask_object(number)
        self.ask_call(call)
        if len(self.open_calls) == 8:
            raise Refused("TooMany")
        self.open_calls[self.begun] = {"object": number, "call": call, "stack": []}
        self.begun += 1
        self.did("begin", number, call)
        return self.begun - 1

    def step(self, number):
        self.ask_open(number)
        held = self.open_calls[number]
        kind = self.kind_of[held["object"]]
        if self.would_enter(held, kind) and len(held["stack"]) == 40:
            raise Refused("TooDeep", number=number)
        event = self.one_step(held, kind)
        if not held["stack"]:
            del self.open_calls[number]
        self.did("step", number)
        return event

    def would_enter(self, held, kind):
        copied = {"call": held["call"], "stack": [dict(part) for part in held["stack"]]}
        return self.one_step(copied, kind)[0] == "enter"

    def one_step(self, held, kind):
        """Do one step of an open call as if its object had the kind; return the event."""
        if not held["stack"]:
            return self.enter(held, self.first_of(kind, held["call"]), None, held["call"])
        top = held["stack"][-1]
        if top["row"] == len(top["rows"]):
            held["stack"].pop()
            return ("leave", top["definer"], top["call"])
        row = top["rows"][top["row"]]
        top["row"] += 1
        if row[0] == "say":
            return ("say", top["definer"], row[1])
        if row[0] == "call":
            return self.enter(held, self.first_of(kind, row[1]), top["definer"], row[1])
        if top["definer"] not in self.line(kind):
            return ("lost", top["definer"], top["call"])
        return self.enter(held, self.following_of(kind, top["definer"], top["call"]), top["definer"], top["call"])

    def enter(self, held, found, asking, call):
        if found is None:
            return ("lost", asking, call)
        held["stack"].append({"definer": found, "call": call, "row": 0, "rows": self.rows_of[found, call]})
        return ("enter", found, call)

    def stop(self, number):
        self.ask_open(number)
        del self.open_calls[number]
        self.did("stop", number)

    def opened(self):
        return sorted([(number, held["object"], held["call"]) for number, held in self.open_calls.items()])

    def stack(self, number):
        self.ask_open(number)
        return [(part["definer"], part["call"], part["row"]) for part in self.open_calls[number]["stack"]]

    def rest(self, number):
        self.ask_open(number)
        return self.rest_as(number, self.kind_of[self.open_calls[number]["object"]])

    def rest_as(self, number, kind):
        held = self.open_calls[number]
        copied = {"call": held["call"], "stack": [dict(part) for part in held["stack"]]}
        events = [self.one_step(copied, kind)]
        entered = [event[0] for event in events].count("enter")
        while copied["stack"]:
            events.append(self.one_step(copied, kind))
            entered += events[-1][0] == "enter"
            if entered > 400:
                raise Refused("TooLong")
        return [event for event in events if event[0] in ("say", "lost")]

    def difference(self, number, kind):
        self.ask_open(number)
        self.ask_kind(kind)
        one, other = self.rest(number), self.rest_as(number, kind)
        if one == other:
            return None
        return [a == b for a, b in itertools.zip_longest(one, other)].index(False)

    # futures

    def all_futures(self):
        """All future lists with their lines: shorter ones first, otherwise ascending."""
        found = []
        for many in range(1, len(self.bases_of) + 1):
            for bases in itertools.permutations(self.kinds(), many):
                line = plain_merge(self.lists(bases))
                if line is not None:
                    found.append((bases, line))
        return found


def next_in(plain, line, kind, call):
    """The next body behind a kind in a line."""
    return next(iter([name for name in line[line.index(kind) + 1:] if (name, call) in plain.rows_of]), None)


def plain_targets(plain, futures, kind, call):
    """Each target with its least list, as all future lists tell it."""
    found = {}
    for bases, line in futures:
        if kind in line:
            found.setdefault(next_in(plain, line, kind, call), bases)
    return sorted([row for row in found.items() if row[0] is not None]) + [row for row in found.items() if not row[0]]


def plain_hindrances(plain, kind, call, target):
    """All papers other than "can" that hold, in the order of the document."""
    mine = plain.line(kind)
    found = []
    if target is not None and (target, call) not in plain.rows_of:
        found.append(("no body",))
    if target is not None and (target == kind or kind in plain.line(target)):
        found.append(("behind",))
    for name in mine:
        if (name, call) in plain.rows_of and mine.index(name) > mine.index(kind):
            if target is None or target in mine and mine.index(target) > mine.index(name):
                found.append(("between", name))
    if target is not None:
        demands = [demand[:2] for demand in plain_demands((plain.line(target),))]
        found += sorted([("clash", p, q) for p, q, _ in plain_demands((mine,)) if (q, p) in demands])
    return found


def plainly_possible(plain, line, call, kinds, lost):
    """Whether a chain is possible in a future line, and ends lost if that is asked."""
    if not set(kinds) <= set(line):
        return False
    if lost and next_in(plain, line, kinds[-1], call) is not None:
        return False
    return [next_in(plain, line, kind, call) for kind in kinds[:-1]] == list(kinds[1:])


def plainly_shows_chain(plain, futures, call, kinds, paper, lost):
    """Whether a tuple is a paper about a chain that holds."""
    lists = tuple([plain.line(kind) for kind in kinds]) + (kinds,)
    others = [kind for kind in plain.kinds() if (kind, call) in plain.rows_of and kind not in kinds]
    if paper[0] == "can" and len(paper) == 2:
        return any([repr(bases) == repr(paper[1]) and plainly_possible(plain, line, call, kinds, lost)
                    for bases, line in futures])
    if paper[0] == "ring" and len(paper) == 2:
        return plainly_ring(lists, paper[1])
    if paper[0] == "after" and len(paper) == 2 and lost and plainly_road(lists, paper[1]):
        return paper[1][0][0] in kinds and paper[1][-1][1] in others
    if paper[0] == "between" and len(paper) == 3 and plainly_road(lists, paper[1]) and plainly_road(lists, paper[2]):
        there, back = paper[1:]
        return there[0][0] in kinds and there[-1][1] in others and back[0][0] == there[-1][1] and back[-1][1] in kinds
    return False


def plain_course(plain, line, kind, call):
    """The course of a kind in a line, and whether it ends lost."""
    course = [kind]
    while ("next",) in plain.rows_of[course[-1], call]:
        found = next_in(plain, line, course[-1], call)
        if found is None:
            return (tuple(course), True)
        course.append(found)
    return (tuple(course), False)


def plain_courses(plain, futures, kind, call):
    """All courses of a kind, as all future lists tell them, ascending."""
    return sorted(set([plain_course(plain, line, kind, call) for _, line in futures if kind in line]))


def plain_seals(plain, futures, kind, call):
    """The seals of a kind, as all its courses tell them, in the order of its line."""
    found = [course for course, _ in plain_courses(plain, futures, kind, call)]
    return [name for name in plain.line(kind) if name != kind and all([name in course for course in found])]


def plain_strays(plain, kind, call):
    """The kinds with a body that does not hand on that are not in the line of a kind, ascending."""
    return [name for name in plain.kinds() if ("next",) not in plain.rows_of.get((name, call), (("next",),))
            and name not in plain.line(kind)]


def plainly_shows_seal(plain, futures, kind, call, target, paper):
    """Whether a tuple of two is a paper about the seal that holds."""
    if repr(paper[0]) == "'skipped'":
        lines = [line for bases, line in futures if repr(bases) == repr(paper[1]) and kind in line]
        return any([target not in plain_course(plain, line, kind, call)[0] for line in lines])
    mine = plain.line(kind)
    if repr(paper[0]) != "'seal'" or target not in mine[1:] or (target, call) not in plain.rows_of:
        return False
    for name in mine[:mine.index(target)]:
        if ("next",) not in plain.rows_of.get((name, call), (("next",),)):
            return False
    strays = plain_strays(plain, kind, call)
    if type(paper[1]) is not tuple or not all([type(row) is tuple and len(row) == 2 for row in paper[1]]):
        return False
    if repr([name for name, _ in paper[1]]) != repr(strays):
        return False
    for name, verdict in paper[1]:
        good = [row for row in plain_hindrances(plain, kind, call, name) if row[0] in ("behind", "clash")]
        if repr(verdict) not in [repr(row) for row in good]:
            return False
    return True


def plain_parts(bases, many):
    """All parts with so many kinds, ascending."""
    return sorted(itertools.combinations(bases, many))


def plain_kept(plain, futures, bases):
    """The part that is kept."""
    for many in range(len(bases), 0, -1):
        for part in plain_parts(bases, many):
            if part in futures:
                return part


def plainly_shows_kept(plain, futures, bases, paper):
    """Whether a tuple of two is a part and all its rings; futures are a dict."""
    part, rings = paper
    if repr(part) not in [repr(row) for many in range(1, len(bases) + 1) for row in plain_parts(bases, many)]:
        return False
    if part not in futures or type(rings) is not tuple:
        return False
    if not all([type(row) is tuple and len(row) == 2 for row in rings]):
        return False
    if repr([row[0] for row in rings]) != repr(plain_parts(bases, len(part) + 1)):
        return False
    return all([plainly_ring(plain.lists(greater), ring) for greater, ring in rings])


def plain_order(futures, bases):
    """The least order of the kinds that is a future list; None if there is none."""
    for order in sorted(itertools.permutations(bases)):
        if order in futures:
            return order
    return None


def plain_telling(one, other):
    """The least of the shortest future lists that only one of two registries has: sets of future lists."""
    found = sorted(one ^ other, key=lambda bases: (len(bases), bases))
    return found[0] if found else None


def plain_text(plain):
    """The kinds and bodies of a registry, written."""
    lines, written = [], []
    while len(written) < len(plain.bases_of):
        kind = min([name for name in set(plain.bases_of) - set(written) if set(plain.bases_of[name]) <= set(written)])
        written.append(kind)
        lines.append(" ".join(("kind", kind) + plain.bases_of[kind]))
        for call in plain.calls(kind):
            rows = ", ".join([" ".join(row) for row in plain.rows_of[kind, call]])
            lines.append("body " + call + " " + (rows if rows else "-"))
    return "\n".join(lines)


def plain_wrong_row(call, string):
    """What NoText of read_body tells; None if the string is a body."""
    if string == "-":
        return None
    rows = string.split(", ")
    for at, row in enumerate(rows):
        if at == 6:
            return 6
        found = re.fullmatch("next|say [a-z]{1,8}|call ([a-z]{1,8})", row)
        if found is None or row[:4] == "call" and not found[1] > call:
            return at
    return None


def plain_wrong_line(string):
    """What NoText of read_registry tells; None if the string writes a registry."""
    plain, kind = Plain(), None
    lines = string.split("\n") if string else []
    for at, line in enumerate(lines):
        words = line.split(" ")
        try:
            if re.fullmatch("kind( [a-z]+)+", line):
                plain.add(words[1], tuple(words[2:]))
                kind = words[1]
            elif re.fullmatch("body [a-z]+ .+", line) and kind is not None:
                rows = line.split(" ", 2)[2]
                if plain_wrong_row(words[1], rows) is not None:
                    return at
                parts = rows.split(", ") if rows != "-" else []
                plain.set_body(kind, words[1], tuple([tuple(part.split(" ")) for part in parts]))
            else:
                return at
        except Refused:
            return at
    return None if plain_text(plain) == string else len(lines)

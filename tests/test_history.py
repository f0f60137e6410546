"""Points 3, 7 to 15: histories of deeds, each compared with the document word for word."""

import random
import unittest

from openlines.chains import chain, shows_chain
from openlines.futures import future_lists, shows, targets, verdict
from openlines.registry import Registry
from openlines.repairs import kept as kept_part
from openlines.repairs import ordered, shows_kept, telling
from openlines.runs import courses, longest, lost, seal_paper, seals, shows_seal
from openlines.texts import read_registry, show_registry
from plain import Plain
from told import kept, read, told
from values import ANY_VALUES

KINDS = ["a", "b", "c", "d", "e", "abcdefgh"]
CALLS = ["f", "g", "h"]
ROWS = [("next",), ("next",), ("say", "hi"), ("say", "abcdefgh"), ("call", "g"), ("call", "h"), ("call", "i")]
DEEDS = ["add"] * 3 + ["rebase"] * 3 + ["drop", "set_body", "set_body", "set_body", "clear_body"] + ["undo"] * 2
DEEDS += ["make", "make", "move", "move", "discard", "begin", "begin", "stop"] + ["step"] * 8
LOOKUPS = ["first", "following", "following"]


class Chooser:
    """Chooses arguments for a method: mostly good ones, so that the deeds are done."""

    def __init__(self, seed):
        self.chance = random.Random(seed)

    def kind(self, registry):
        return self.chance.choice(registry.kinds() or KINDS) if self.chance.random() < 0.9 else self.wrong(KINDS)

    def wrong(self, names):
        return self.chance.choice(names + ["Z", "abcdefghi"] + [self.chance.choice(ANY_VALUES)])

    def call(self):
        return self.chance.choice(CALLS) if self.chance.random() < 0.95 else self.wrong(["i", "aa"])

    def number(self, rows):
        numbers = [row[0] for row in rows]
        if numbers and self.chance.random() < 0.95:
            return self.chance.choice(numbers)
        return self.chance.choice([0, 1, 7, -1, True, False, None, "0", (0,), 10 ** 59])

    def bases(self, registry, name):
        good = [kind for kind in registry.kinds() if kind != name]
        if registry.has(name):
            good = [kind for kind in good if kind not in registry.below(name)]
        picked = self.chance.sample(good, self.chance.randrange(min(3, len(good)) + 1))
        if self.chance.random() < 0.05:
            picked.insert(self.chance.randrange(len(picked) + 1), self.wrong(KINDS))
        return tuple(picked) if self.chance.random() < 0.98 else picked

    def body(self, call):
        rows = [self.chance.choice(ROWS) for _ in range(self.chance.choice([0, 1, 1, 2, 2, 3, 6]))]
        if self.chance.random() < 0.8:
            rows = [row for row in rows if row[0] != "call" or not isinstance(call, str) or row[1] > call]
        return tuple(rows) if self.chance.random() < 0.98 else rows

    def arguments(self, word, registry):
        kind, call = self.kind(registry), self.call()
        number = self.number(registry.opened() if word in ("step", "stop") else registry.objects())
        name = kind
        if word == "add":
            name = self.chance.choice(KINDS) if self.chance.random() < 0.95 else self.wrong(["aaaaaaaaa"])
        line = list(registry.line(kind)) if registry.has(kind) and self.chance.random() < 0.9 else [self.wrong(KINDS)]
        return {
            "add": (name, self.bases(registry, name)), "rebase": (name, self.bases(registry, name)),
            "drop": (kind,), "set_body": (kind, call, self.body(call)), "clear_body": (kind, call), "undo": (),
            "make": (kind,), "move": (number, kind), "discard": (number,), "begin": (number, call),
            "stop": (number,), "step": (number,), "first": (kind, call),
            "following": (kind, self.chance.choice(line), call),
        }[word]


def afresh(registry):
    """A registry that is built from the kinds, bodies and objects of another one."""
    rows, left = [], registry.kinds()
    while left:
        ready = [kind for kind in left if not set(registry.bases(kind)) & set(left)]
        rows += [(kind, registry.bases(kind)) for kind in ready]
        left = [kind for kind in left if kind not in ready]
    made = Registry.built(rows)
    for kind in registry.kinds():
        for call in registry.calls(kind):
            made.set_body(kind, call, registry.body(kind, call))
    numbers = [number for number, _ in registry.objects()]
    for number in range(max(numbers, default=-1) + 1):
        made.make(dict(registry.objects()).get(number, "a" if not rows else rows[0][0]))
        if number not in numbers:
            made.discard(number)
    return made


def all_courses(registry, kind, call):
    return list(courses(registry, kind, call))


def asked(registry):
    """All that the future tells of a registry."""
    kinds = registry.kinds()
    answers = [list(future_lists(registry, 2)), show_registry(registry)]
    for kind in kinds:
        answers.append(targets(registry, kind, "f"))
        answers += [told(function, registry, kind, "f") for function in (all_courses, longest, lost, seals)]
        for other in kinds:
            answers.append(verdict(registry, kind, "f", other))
            answers.append(told(seal_paper, registry, kind, "f", other))
            answers += [told(chain, registry, "f", (kind, other), lost=ends) for ends in (False, True)]
    if kinds:
        answers += [function(registry, tuple(kinds)) for function in (kept_part, ordered)]
        answers += [function(registry, tuple(kinds[::-1])) for function in (kept_part, ordered)]
    return answers


def all_shown(registry):
    """Whether each paper that is returned holds: a list of True."""
    kinds = registry.kinds()
    found = []
    for kind in kinds:
        for other in kinds:
            found.append(shows(registry, kind, "f", other, verdict(registry, kind, "f", other)))
            if kind != other and registry.body(kind, "f") is not None:
                found.append(shows_seal(registry, kind, "f", other, seal_paper(registry, kind, "f", other)))
            if kind != other and registry.body(other, "f") is not None:
                found.append(shows_chain(registry, "f", (kind, other), chain(registry, "f", (kind, other))))
    if kinds:
        found.append(shows_kept(registry, tuple(kinds), kept_part(registry, tuple(kinds))))
    return found


class HistoryTest(unittest.TestCase):
    def history(self, seed, many, words):
        """Do some deeds and lookups; return the words that were done and the errors that were raised."""
        chooser = Chooser(seed)
        registry, plain = Registry(), Plain()
        seen = {}
        for _ in range(many):
            word = chooser.chance.choice(words)
            arguments = chooser.arguments(word, registry)
            one = told(getattr(registry, word), *arguments)
            other = told(getattr(plain, word), *arguments)
            self.assertEqual(repr(one), repr(other), (seed, word, arguments))
            seen[word if one[0] == "returned" else one[0]] = True
            if one[0] == "returned" and isinstance(one[1], list) and one[1]:
                seen["dropped by " + word] = True
            self.assertEqual(registry.deeds, len(plain.past))
            if chooser.chance.random() < 0.3:
                self.assertEqual(read(registry), read(plain), (seed, word, arguments))
        self.assertEqual(read(registry), read(plain))
        self.check_afresh(registry)
        self.undo_all(registry, plain)
        return seen

    def check_afresh(self, registry):
        made = afresh(registry)
        self.assertEqual(made, registry)
        for word in ("kinds", "objects"):
            self.assertEqual(getattr(made, word)(), getattr(registry, word)())
        for kind in registry.kinds():
            self.assertEqual(made.line(kind), registry.line(kind))
            for call in CALLS:
                self.assertEqual(told(made.run, kind, call), told(registry.run, kind, call))
        # The questions about the future change nothing, and the history does not matter for them.
        before = kept(registry)
        self.assertEqual(asked(made), asked(registry))
        self.assertIs(telling(made, registry), None)
        self.assertEqual(asked(read_registry(show_registry(registry))), asked(registry))
        self.assertNotIn(False, all_shown(registry))
        self.assertEqual(kept(registry), before)
        for key, answer in registry.cached():
            self.assertEqual((made.first if len(key) == 2 else made.following)(*key), answer)

    def undo_all(self, registry, plain):
        """Take back all deeds; lookups between them stay in the cache as long as they are right."""
        while registry.deeds:
            for kind in registry.kinds()[:2]:
                for model in (registry, plain):
                    model.first(kind, "f")
                    model.following(kind, kind, "g")
            self.assertEqual(registry.undo(), plain.undo())
            self.assertEqual(registry.cached(), plain.cached())
            if registry.deeds % 20 == 0:
                self.check_afresh(registry)
        self.assertEqual(registry, Registry())
        self.assertEqual((registry.kinds(), registry.objects(), registry.opened(), registry.cached()), ([], [], [], []))
        self.assertEqual(told(registry.undo), ("Nothing", {}))

    def test_histories_of_all_deeds(self):
        seen = {}
        for seed in range(100):
            seen.update(self.history(seed, 90, DEEDS + LOOKUPS * 4))
        for word in DEEDS + LOOKUPS + ["NoName", "Taken", "NoBases", "NoKind", "NoCall", "NoBody", "Absent", "InUse",
                                       "NoObject", "NoOpen", "Busy", "NoDefiner", "NoLine", "dropped by undo"]:
            self.assertIn(word, seen)

    def test_histories_of_edits(self):
        words = ["add"] * 2 + ["rebase"] * 4 + ["set_body"] * 2 + ["clear_body", "drop", "undo"] + LOOKUPS * 3
        seen = {}
        for seed in range(100):
            seen.update(self.history(1000 + seed, 80, words))
        dropped = ["dropped by " + word for word in set(words) - {"add"} - set(LOOKUPS)]
        for word in words + ["NoLine", "InUse"] + dropped:
            self.assertIn(word, seen)
        self.assertNotIn("dropped by add", seen)

    def test_histories_of_calls(self):
        words = ["add", "rebase", "set_body", "set_body", "clear_body", "undo", "make", "begin", "begin"]
        words += ["step"] * 12 + ["move"] * 3 + ["stop"]
        seen = {}
        for seed in range(100):
            seen.update(self.history(2000 + seed, 120, words))
        for word in words:
            self.assertIn(word, seen)


if __name__ == "__main__":
    unittest.main()

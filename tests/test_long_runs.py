"""Points 11 and 15: runs, rests and differences of hundreds of bodies."""

import random
import unittest

from openlines.registry import Registry
from plain import Plain
from small import both
from told import told

CALLS = "fghik"


def some_long(chance):
    """A random registry whose calls run many bodies, and the same one word for word; an open call on its object 0."""
    rows = [("c", ()), ("b", ("c",)), ("d", ()), ("a", ("b", "d")), ("e", ("d", "b"))]
    registry, plain = both(rows, [])
    for at, call in enumerate(CALLS):
        for kind in chance.sample("abcd", chance.choice((1, 1, 2, 3))):
            words = [("call", further) for further in CALLS[at + 1:at + 3]] * 3
            words += [("next",), ("say", kind), ("call", "z")]
            body = tuple([chance.choice(words) for _ in range(chance.choice((2, 3, 4, 5, 6)))])
            for model in (registry, plain):
                told(model.set_body, kind, call, body)
    for model in (registry, plain):
        model.make("a")
        model.begin(0, "f")
    return registry, plain


def exactly(many):
    """A registry in which f on a runs so many bodies: 382 to 385."""
    registry, plain = Registry.built((("b", ()), ("a", ("b",)))), Plain()
    plain.add("b")
    plain.add("a", ("b",))
    rows = [("a", "f", (("call", "g"),) * 3 + (("call", "k"),) * (many - 382)), ("a", "g", (("call", "h"),) * 6),
            ("a", "h", (("call", "i"),) * 5), ("a", "i", (("call", "k"),) * 3), ("b", "k", (("say", "k"), ("next",)))]
    for row in rows:
        for model in (registry, plain):
            model.set_body(*row)
    return registry, plain


class LongRunTest(unittest.TestCase):
    def check_models(self, registry, plain):
        """Check all that is run, and what is left of the open call; return what was told."""
        found = []
        for kind in registry.kinds():
            for call in CALLS:
                found.append(told(registry.run, kind, call))
                self.assertEqual(found[-1], told(plain.run, kind, call))
            found.append(told(registry.difference, 0, kind))
            self.assertEqual(found[-1], told(plain.difference, 0, kind))
        found.append(told(registry.rest, 0))
        self.assertEqual(found[-1], told(plain.rest, 0))
        return found

    def test_random_runs(self):
        chance = random.Random(1)
        found = []
        for _ in range(30):
            registry, plain = some_long(chance)
            found += self.check_models(registry, plain)
            for _ in range(chance.randrange(60)):
                if registry.opened():
                    self.assertEqual(told(registry.step, 0), told(plain.step, 0))
            for word, arguments in (("clear_body", ("b", "g")), ("move", (0, "e")), ("set_body", ("c", "h", ()))):
                if registry.opened():
                    self.assertEqual(told(getattr(registry, word), *arguments), told(getattr(plain, word), *arguments))
                    found += self.check_models(registry, plain)
        events = [len(value) for word, value in found if word == "returned" and isinstance(value, list)]
        self.assertGreater(len([many for many in events if many > 150]), 20)
        self.assertGreater([word for word, _ in found].count("TooLong"), 20)

    def test_exactly_so_many(self):
        # f runs 1 + 3 + 18 + 90 + 270 bodies, and so many more as it calls k itself; a body has at most six rows.
        for many in (382, 383, 385):
            registry, plain = exactly(many)
            found = registry.run("a", "f")
            self.assertEqual(len(found), 2 * (270 + many - 382))
            self.assertEqual(found[:2], [("say", "b", "k"), ("lost", "b", "k")])
            self.assertEqual(found, plain.run("a", "f"))

    def test_four_hundred_and_one_more(self):
        for many, fits in ((400, True), (401, False)):
            registry, plain = exactly(382)
            for model in (registry, plain):
                # Itself, i four times with three k each, and k once or twice.
                model.set_body("b", "f", (("call", "i"),) * 4 + (("call", "k"),) * (many - 399))
                model.set_body("a", "f", (("call", "g"),) * 3 + (("next",), ("say", "end")))
                model.make("a")
                model.begin(0, "f")
            self.assertEqual(told(registry.run, "a", "f")[0] == "returned", fits)
            self.assertEqual(told(registry.run, "a", "f"), told(plain.run, "a", "f"))
            self.check_models(registry, plain)
            # The first body is not counted any more once it is entered.
            self.assertEqual(told(registry.step, 0), ("returned", ("enter", "a", "f")))
            self.assertEqual(told(registry.rest, 0)[0], "returned")
            plain.step(0)
            self.check_models(registry, plain)

    def test_the_run_of_the_issue(self):
        registry, _ = exactly(382)
        registry.set_body("b", "k", ())
        self.assertEqual(registry.run("a", "f"), [])
        registry.make("a")
        registry.begin(0, "f")
        self.assertEqual((registry.rest(0), registry.difference(0, "a"), registry.difference(0, "b")), ([], None, 0))
        registry.run("a", "f").append("z")
        registry.rest(0).append("z")
        self.assertEqual((registry.run("a", "f"), registry.rest(0)), ([], []))

    def test_a_returned_list_is_new(self):
        registry = Registry.built((("a", ()),))
        registry.set_body("a", "f", (("call", "g"), ("call", "g")))
        registry.set_body("a", "g", (("say", "x"),))
        registry.make("a")
        registry.begin(0, "f")
        for found in (registry.run("a", "f"), registry.rest(0)):
            self.assertEqual(found, [("say", "a", "x")] * 2)
            found.clear()
        self.assertEqual((registry.run("a", "f"), registry.rest(0)), ([("say", "a", "x")] * 2,) * 2)


if __name__ == "__main__":
    unittest.main()

"""Points 10 to 12: lookups, runs and cached lookups."""

import unittest

from openlines.errors import NoCall, NoDefiner, NoKind, TooLong
from openlines.registry import Registry
from small import of_many_bodies
from told import refused, told
from values import ANY_VALUES

NEXT = (("next",),)


def say(word):
    return (("say", word),)


def diamond():
    """Kinds a on b and c on d; b, c and d have bodies for f."""
    registry = Registry.built((("d", ()), ("b", ("d",)), ("c", ("d",)), ("a", ("b", "c"))))
    registry.set_body("b", "f", (("say", "b"), ("next",), ("say", "bb")))
    registry.set_body("c", "f", (("next",), ("say", "c")))
    registry.set_body("d", "f", say("d"))
    return registry


class LookupTest(unittest.TestCase):
    def test_first(self):
        registry = diamond()
        self.assertEqual([registry.first(kind, "f") for kind in "abcd"], ["b", "b", "c", "d"])
        self.assertIs(registry.first("a", "g"), None)
        registry.set_body("a", "f", ())
        self.assertEqual(registry.first("a", "f"), "a")

    def test_following(self):
        registry = diamond()
        self.assertEqual([registry.following("a", definer, "f") for definer in "abc"], ["b", "c", "d"])
        self.assertIs(registry.following("a", "d", "f"), None)
        self.assertEqual(registry.following("b", "b", "f"), "d")
        self.assertIs(registry.following("a", "a", "g"), None)

    def test_the_line_of_the_kind_counts(self):
        registry = diamond()
        self.assertEqual((registry.following("a", "b", "f"), registry.following("b", "b", "f")), ("c", "d"))

    def test_the_order_of_errors(self):
        registry = diamond()
        refused(self, registry, NoKind, {"name": "z"}, registry.first, "z", "F")
        refused(self, registry, NoCall, {"call": "F"}, registry.first, "a", "F")
        refused(self, registry, NoKind, {"name": "z"}, registry.following, "z", "z", "F")
        refused(self, registry, NoDefiner, {"definer": "c"}, registry.following, "b", "c", "F")
        refused(self, registry, NoDefiner, {"definer": "a"}, registry.following, "d", "a", "f")
        refused(self, registry, NoCall, {"call": "F"}, registry.following, "b", "d", "F")
        refused(self, registry, NoKind, {"name": "z"}, registry.run, "z", "F")
        refused(self, registry, NoCall, {"call": "F"}, registry.run, "a", "F")

    def test_any_value(self):
        registry = diamond()
        for thing in ANY_VALUES:
            if thing not in ("a", "b"):
                refused(self, registry, NoKind, {"name": thing}, registry.first, thing, thing)
                refused(self, registry, NoKind, {"name": thing}, registry.run, thing, thing)
                refused(self, registry, NoKind, {"name": thing}, registry.following, thing, thing, thing)
                refused(self, registry, NoDefiner, {"definer": thing}, registry.following, "a", thing, thing)
            if not Registry.is_name(thing):
                refused(self, registry, NoCall, {"call": thing}, registry.first, "a", thing)
                refused(self, registry, NoCall, {"call": thing}, registry.run, "a", thing)
                refused(self, registry, NoCall, {"call": thing}, registry.following, "a", "b", thing)
        self.assertEqual(registry.cached(), [])

    def test_keywords(self):
        registry = diamond()
        self.assertEqual(registry.first(call="f", kind="a"), "b")
        self.assertEqual(registry.following(call="f", definer="b", kind="a"), "c")
        self.assertEqual(registry.following("a", call="f", definer="c"), "d")
        self.assertEqual(registry.run(call="f", kind="d"), [("say", "d", "d")])


class RunTest(unittest.TestCase):
    def test_calls_are_handed_on(self):
        registry = diamond()
        self.assertEqual(registry.run("a", "f"), [("say", "b", "b"), ("say", "d", "d"), ("say", "c", "c"),
                                                  ("say", "b", "bb")])
        self.assertEqual(registry.run("b", "f"), [("say", "b", "b"), ("say", "d", "d"), ("say", "b", "bb")])

    def test_lost(self):
        registry = diamond()
        self.assertEqual(registry.run("a", "g"), [("lost", None, "g")])
        registry.set_body("d", "f", (("next",), ("say", "x"), ("call", "g")))
        self.assertEqual(registry.run("d", "f"), [("lost", "d", "f"), ("say", "d", "x"), ("lost", "d", "g")])

    def test_called_names_begin_at_the_first_body(self):
        registry = diamond()
        registry.set_body("d", "f", (("call", "g"), ("say", "end")))
        registry.set_body("a", "g", (("say", "here"), ("next",)))
        registry.set_body("c", "g", say("there"))
        self.assertEqual(registry.run("a", "f")[1:4],
                         [("say", "a", "here"), ("say", "c", "there"), ("say", "d", "end")])
        self.assertEqual(registry.run("d", "f"), [("lost", "d", "g"), ("say", "d", "end")])

    def test_an_empty_body(self):
        registry = diamond()
        registry.set_body("a", "f", ())
        self.assertEqual(registry.run("a", "f"), [])

    def test_six_rows(self):
        registry = Registry.built((("a", ()),))
        registry.set_body("a", "f", tuple([("say", word) for word in "uvwxyz"]))
        self.assertEqual(registry.run("a", "f"), [("say", "a", word) for word in "uvwxyz"])

    def test_next_twice(self):
        registry = diamond()
        registry.set_body("c", "f", NEXT * 2)
        self.assertEqual(registry.run("c", "f"), [("say", "d", "d")] * 2)

    def test_four_hundred_bodies(self):
        self.assertEqual(of_many_bodies(2).run("a", "f"), [])
        self.assertEqual(of_many_bodies(3).run("a", "f"), [])
        registry = of_many_bodies(4)
        refused(self, registry, TooLong, {}, registry.run, "a", "f")
        self.assertEqual(registry.run("a", "w"), [])

    def test_far_too_many_bodies(self):
        registry = Registry.built((("c", ()), ("b", ("c",)), ("a", ("b",))))
        for at, call in enumerate("fghijklmnopq"):
            registry.set_body("abc"[at % 3], call, (("call", "fghijklmnopqr"[at + 1]),) * 6)
        refused(self, registry, TooLong, {}, registry.run, "a", "f")

    def test_lost_events_are_no_bodies(self):
        registry = of_many_bodies(3)
        registry.set_body("a", "e", (("call", "f"), ("call", "u"), ("next",)))
        refused(self, registry, TooLong, {}, registry.run, "a", "e")
        registry.set_body("a", "g", (("call", "z"),) * 2 + (("call", "u"),) * 4)
        self.assertEqual(registry.run("a", "e"), [("lost", "a", "u")] * 5 + [("lost", "a", "e")])

    def test_a_line_of_six_bodies(self):
        rows = [("f", ())] + [(name, (below,)) for name, below in zip("edcba", "fedcb")]
        registry = Registry.built(rows)
        for name in "abcdef":
            registry.set_body(name, "f", (("next",), ("say", name)))
        self.assertEqual(registry.run("a", "f"), [("lost", "f", "f")] + [("say", name, name) for name in "fedcba"])

    def test_a_run_caches_nothing(self):
        registry = diamond()
        registry.run("a", "f")
        self.assertEqual(registry.cached(), [])


class CacheTest(unittest.TestCase):
    def fill(self, registry):
        """Look everything up."""
        for kind in registry.kinds():
            registry.first(kind, "f")
            for definer in registry.line(kind):
                registry.following(kind, definer, "f")

    def test_the_order_of_the_cache(self):
        registry = diamond()
        registry.following("b", "b", "f")
        registry.following("a", "d", "f")
        registry.first("d", "f")
        registry.following("a", "a", "g")
        registry.first("a", "g")
        registry.following("a", "b", "f")
        registry.first("a", "f")
        self.assertEqual(registry.cached(), [
            (("a", "f"), "b"), (("a", "g"), None), (("d", "f"), "d"), (("a", "a", "g"), None), (("a", "b", "f"), "c"),
            (("a", "d", "f"), None), (("b", "b", "f"), "d")])

    def test_a_lookup_twice(self):
        registry = diamond()
        self.assertEqual([registry.first("a", "f") for _ in range(3)], ["b"] * 3)
        self.assertEqual([registry.following("a", "b", "f") for _ in range(3)], ["c"] * 3)
        self.assertEqual(registry.cached(), [(("a", "f"), "b"), (("a", "b", "f"), "c")])

    def test_a_lookup_that_raises(self):
        registry = diamond()
        for word, arguments in (("first", ("z", "f")), ("first", ("a", "F")), ("following", ("b", "c", "f")),
                                ("following", ("a", "b", "")), ("following", ("z", "b", "f"))):
            self.assertNotEqual(told(getattr(registry, word), *arguments)[0], "returned")
        self.assertEqual(registry.cached(), [])

    def test_nothing_else_fills_it(self):
        registry = diamond()
        registry.make("a")
        registry.begin(0, "f")
        list(registry.steps(0))
        registry.begin(0, "f")
        registry.step(1)
        registry.rest(1)
        registry.difference(1, "b")
        registry.run("a", "f")
        registry.below("d")
        registry.body("a", "f")
        self.assertEqual(registry.cached(), [])

    def test_setting_a_body(self):
        registry = diamond()
        self.fill(registry)
        before = registry.cached()
        # What was b for a itself is now found at a; what is behind b, c and d stays.
        self.assertEqual(registry.set_body("a", "f", ()), [("a", "f")])
        self.assertEqual(registry.cached(), [row for row in before if row[0] != ("a", "f")])
        self.assertEqual(registry.first("a", "f"), "a")
        self.assertEqual(registry.undo(), [("a", "f")])
        self.assertEqual(registry.first("a", "f"), "b")

    def test_clearing_a_body(self):
        registry = diamond()
        self.fill(registry)
        self.assertEqual(registry.clear_body("c", "f"), [("c", "f"), ("a", "b", "f")])
        self.assertEqual(registry.clear_body("d", "f"),
                         [("d", "f"), ("a", "c", "f"), ("b", "b", "f"), ("c", "c", "f")])
        self.assertEqual(registry.undo(), [])
        self.assertEqual(registry.undo(), [])

    def test_another_body_drops_nothing(self):
        registry = diamond()
        self.fill(registry)
        self.assertEqual(registry.set_body("b", "f", ()), [])
        self.assertEqual(registry.set_body("b", "g", ()), [])
        self.assertEqual(registry.undo(), [])

    def test_rebasing(self):
        registry = diamond()
        self.fill(registry)
        self.assertEqual(registry.rebase("a", ("c", "b")),
                         [("a", "f"), ("a", "a", "f"), ("a", "b", "f"), ("a", "c", "f")])
        self.fill(registry)
        self.assertEqual(registry.undo(), [("a", "f"), ("a", "a", "f"), ("a", "b", "f"), ("a", "c", "f")])
        self.fill(registry)
        # d leaves the line: a lookup behind it would raise an error.
        self.assertEqual(registry.rebase("b", ()), [("b", "b", "f"), ("b", "d", "f")])
        self.assertEqual(registry.rebase("c", ()), [("a", "c", "f"), ("a", "d", "f"), ("c", "c", "f"), ("c", "d", "f")])

    def test_dropping_a_kind(self):
        registry = diamond()
        self.fill(registry)
        registry.first("a", "zz")
        self.assertEqual(registry.drop("a"), [("a", "f"), ("a", "zz"), ("a", "a", "f"), ("a", "b", "f"),
                                              ("a", "c", "f"), ("a", "d", "f")])
        self.assertEqual(registry.undo(), [])
        self.assertEqual([row[0] for row in registry.cached() if row[0][0] == "a"], [])

    def test_undoing_add(self):
        registry = diamond()
        registry.add("e", ("a",))
        self.fill(registry)
        self.assertEqual(registry.undo(), [("e", "f")] + [("e", definer, "f") for definer in "abcde"])
        self.assertEqual(registry.undo(), [("d", "f"), ("a", "c", "f"), ("b", "b", "f"), ("c", "c", "f")])

    def test_a_dropped_key_does_not_come_back(self):
        registry = diamond()
        registry.first("c", "f")
        self.assertEqual(registry.clear_body("c", "f"), [("c", "f")])
        self.assertEqual(registry.undo(), [])
        self.assertEqual(registry.cached(), [])

    def test_a_key_that_is_put_in_behind_a_deed_stays(self):
        registry = diamond()
        registry.set_body("a", "g", ())
        registry.first("a", "f")
        registry.first("a", "g")
        registry.first("b", "g")
        self.assertEqual(registry.undo(), [("a", "g")])
        self.assertEqual(registry.cached(), [(("a", "f"), "b"), (("b", "g"), None)])

    def test_what_is_dropped_and_looked_up_again(self):
        registry = diamond()
        registry.first("c", "f")
        registry.clear_body("c", "f")
        registry.first("c", "f")
        self.assertEqual(registry.cached(), [(("c", "f"), "d")])
        self.assertEqual(registry.undo(), [("c", "f")])

    def test_deeds_that_are_no_edits_drop_nothing(self):
        registry = diamond()
        self.fill(registry)
        before = registry.cached()
        registry.make("a")
        registry.move(0, "b")
        registry.begin(0, "f")
        registry.step(0)
        registry.stop(0)
        registry.discard(0)
        for _ in range(6):
            self.assertEqual(registry.undo(), [])
        self.assertEqual(registry.cached(), before)

    def test_edits_that_raise_drop_nothing(self):
        registry = diamond()
        self.fill(registry)
        before = registry.cached()
        for word, arguments in (("add", ("a",)), ("rebase", ("d", ("a",))), ("drop", ("d",)),
                                ("set_body", ("a", "f", None)), ("clear_body", ("a", "g")),
                                ("rebase", ("b", ("c", "d", "c")))):
            self.assertNotEqual(told(getattr(registry, word), *arguments)[0], "returned")
        self.assertEqual(registry.cached(), before)

    def test_a_kind_that_is_added_again(self):
        registry = diamond()
        registry.first("a", "f")
        registry.drop("a")
        self.assertEqual(registry.add("a", ("c",)), [])
        self.assertEqual(registry.cached(), [])
        self.assertEqual(registry.first("a", "f"), "c")


if __name__ == "__main__":
    unittest.main()

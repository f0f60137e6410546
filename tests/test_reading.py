"""Point 9: what a registry tells; point 2: what is returned is new."""

import copy
import unittest

from openlines.errors import NoBases, NoCall, NoKind, NoLine, NoName, Taken, TooMany
from openlines.registry import Registry
from plain import plainly_name
from told import refused, told
from values import ANY_VALUES

NEXT = (("next",),)


def sample():
    registry = Registry.built((("d", ()), ("b", ("d",)), ("c", ("d",)), ("a", ("b", "c"))))
    registry.set_body("c", "g", ())
    registry.set_body("c", "f", NEXT)
    registry.set_body("a", "f", (("say", "hi"),))
    return registry


class ReadingTest(unittest.TestCase):
    def test_ordinary_values(self):
        registry = sample()
        self.assertEqual(registry.kinds(), ["a", "b", "c", "d"])
        self.assertEqual((registry.bases("a"), registry.bases("d")), (("b", "c"), ()))
        self.assertEqual((registry.line("a"), registry.line("c")), (("a", "b", "c", "d"), ("c", "d")))
        self.assertEqual((registry.calls("c"), registry.calls("b")), (["f", "g"], []))
        self.assertEqual(registry.body("c", "f"), NEXT)
        self.assertEqual(registry.body("c", "g"), ())
        self.assertIs(registry.body("b", "f"), None)
        self.assertIs(registry.body("c", "zzzzzzzz"), None)
        self.assertEqual([registry.below(kind) for kind in "abcd"], [[], ["a"], ["a"], ["a", "b", "c"]])

    def test_kinds_of_values(self):
        registry = sample()
        for thing, made in ((registry.kinds(), list), (registry.bases("d"), tuple), (registry.line("d"), tuple),
                            (registry.calls("b"), list), (registry.body("c", "g"), tuple), (registry.below("a"), list),
                            (registry.has("a"), bool), (registry.deeds, int), (registry.cached(), list),
                            (registry.objects(), list), (registry.opened(), list), (registry.run("a", "f"), list)):
            self.assertIs(type(thing), made)

    def test_any_value(self):
        registry = sample()
        for thing in ANY_VALUES:
            self.assertIs(registry.has(thing), repr(thing) in ("'a'", "'b'"))
            self.assertIs(Registry.is_name(thing), plainly_name(thing))
            self.assertIs(registry.is_name(thing), plainly_name(thing))
            if thing not in ("a", "b"):
                for reading in (registry.bases, registry.line, registry.calls, registry.below):
                    refused(self, registry, NoKind, {"name": thing}, reading, thing)
                refused(self, registry, NoKind, {"name": thing}, registry.body, thing, thing)
            if not plainly_name(thing):
                refused(self, registry, NoCall, {"call": thing}, registry.body, "a", thing)

    def test_names(self):
        for thing in ("a", "z", "abcdefgh"):
            self.assertIs(Registry.is_name(thing), True)
        for thing in ("", "abcdefghi", "A", "a1", "a b", None, 1, ["a"]):
            self.assertIs(Registry.is_name(thing), False)

    def test_keywords(self):
        registry = sample()
        self.assertEqual(registry.bases(kind="a"), ("b", "c"))
        self.assertEqual(registry.line(kind="c"), ("c", "d"))
        self.assertEqual(registry.calls(kind="c"), ["f", "g"])
        self.assertEqual(registry.body(call="f", kind="c"), NEXT)
        self.assertEqual(registry.below(kind="b"), ["a"])
        self.assertIs(registry.has(thing="a"), True)
        self.assertIs(Registry.is_name(thing="A"), False)
        self.assertEqual(Registry.built(rows=[("a", ())]).kinds(), ["a"])

    def test_returned_lists_are_new(self):
        registry = sample()
        registry.make("a")
        registry.begin(0, "f")
        registry.step(0)
        registry.first("a", "f")
        readings = [(registry.kinds, ()), (registry.calls, ("c",)), (registry.below, ("d",)), (registry.cached, ()),
                    (registry.objects, ()), (registry.opened, ()), (registry.stack, (0,)), (registry.rest, (0,)),
                    (registry.run, ("a", "f"))]
        for reading, arguments in readings:
            before = reading(*arguments)
            self.assertNotEqual(before, [])
            reading(*arguments).append("x")
            reading(*arguments).clear()
            self.assertEqual(reading(*arguments), before)
        dropped = registry.clear_body("a", "f")
        dropped.clear()
        registry.first("a", "f")
        self.assertEqual(registry.undo(), [("a", "f")])

    def test_deeds(self):
        registry = sample()
        self.assertEqual(registry.deeds, 7)
        registry.make("a")
        registry.undo()
        registry.undo()
        self.assertEqual(registry.deeds, 6)
        with self.assertRaises(AttributeError):
            registry.deeds = 3

    def test_most_kinds(self):
        self.assertEqual(Registry.MOST_KINDS, 10)
        self.assertEqual(Registry().MOST_KINDS, 10)
        self.assertIs(type(Registry.MOST_KINDS), int)


class BuiltTest(unittest.TestCase):
    def test_rows(self):
        for rows in ([("a", ()), ("b", ("a",))], (("a", ()), ("b", ("a",)))):
            registry = Registry.built(rows)
            self.assertIs(type(registry), Registry)
            self.assertEqual((registry.line("b"), registry.deeds, len(registry)), (("b", "a"), 2, 2))
            registry.undo()
            self.assertEqual(registry.kinds(), ["a"])

    def test_no_rows(self):
        for rows in ([], ()):
            self.assertEqual(Registry.built(rows), Registry())
            self.assertEqual(Registry.built(rows).deeds, 0)

    def test_off_an_object(self):
        registry = sample()
        self.assertEqual(registry.built([("x", ())]).kinds(), ["x"])
        self.assertEqual(registry.kinds(), ["a", "b", "c", "d"])

    def test_it_raises_as_add(self):
        rows = [("a", ()), ("b", ("a",))]
        for row, error, fields in ((("A", None), NoName, {"name": "A"}), (("a", None), Taken, {"name": "a"}),
                                   (("c", ["a"]), NoBases, {"at": -1}), (("c", ("a", "c")), NoBases, {"at": 1}),
                                   (("c", ("a", "b")), NoLine, {"kind": "c", "ring": (("a", "b", 2), ("b", "a", 1))})):
            with self.assertRaises(error) as caught:
                Registry.built(rows + [row])
            self.assertEqual(vars(caught.exception), fields)
        with self.assertRaises(TooMany):
            Registry.built([(name, ()) for name in "abcdefghijk"])

    def test_the_rows_stay(self):
        rows = [("a", ()), ("b", ("a",))]
        registry = Registry.built(rows)
        self.assertEqual(rows, [("a", ()), ("b", ("a",))])
        rows.clear()
        self.assertEqual(registry.kinds(), ["a", "b"])


class EqualTest(unittest.TestCase):
    def test_kinds_bases_and_bodies(self):
        self.assertTrue(sample() == sample())
        self.assertFalse(sample() != sample())
        for word, arguments in (("add", ("z",)), ("drop", ("a",)), ("rebase", ("a", ("c", "b"))),
                                ("set_body", ("a", "f", ())), ("set_body", ("a", "g", ())), ("clear_body", ("c", "g")),
                                ("make", ("a",))):
            registry = sample()
            getattr(registry, word)(*arguments)
            self.assertFalse(registry == sample())
            self.assertTrue(registry != sample())
            registry.undo()
            self.assertTrue(registry == sample())

    def test_equal_lines_with_other_bases(self):
        one = Registry.built((("a", ()), ("b", ("a",)), ("c", ("b",))))
        other = Registry.built((("a", ()), ("b", ("a",)), ("c", ("b", "a"))))
        self.assertEqual(one.line("c"), other.line("c"))
        self.assertFalse(one == other)

    def test_the_order_of_making_does_not_matter(self):
        one = Registry.built((("a", ()), ("b", ()), ("c", ("a", "b"))))
        other = Registry.built((("b", ()), ("a", ()), ("c", ("a", "b"))))
        one.set_body("a", "f", ())
        one.set_body("b", "f", ())
        other.set_body("b", "f", ())
        other.set_body("a", "f", ())
        self.assertTrue(one == other)

    def test_what_does_not_matter(self):
        one, other = sample(), sample()
        for registry in (one, other):
            registry.make("a")
        one.begin(0, "f")
        one.step(0)
        one.first("a", "f")
        one.rebase("a", ("b", "c"))
        self.assertTrue(one == other)
        one.make("b")
        one.discard(1)
        self.assertTrue(one == other)

    def test_numbers_and_kinds_of_objects(self):
        one, other = sample(), sample()
        one.make("a")
        other.make("b")
        self.assertFalse(one == other)
        other.move(0, "a")
        self.assertTrue(one == other)
        one.discard(0)
        one.make("a")
        self.assertFalse(one == other)

    def test_a_registry_equals_nothing_else(self):
        for registry in (sample(), Registry()):
            for thing in list(ANY_VALUES) + [registry.kinds(), repr(registry), {}, object]:
                if not isinstance(thing, Registry):
                    self.assertIs(registry == thing, False)
                    self.assertIs(thing == registry, False)
                    self.assertIs(registry != thing, True)
        self.assertIs(Registry() == Registry(), True)

    def test_len_and_repr(self):
        self.assertEqual((len(Registry()), repr(Registry())), (0, "Registry(0 kinds, 0 bodies)"))
        self.assertEqual((len(sample()), repr(sample())), (4, "Registry(4 kinds, 3 bodies)"))
        registry = Registry.built((("a", ()),))
        registry.set_body("a", "f", ())
        self.assertEqual((len(registry), repr(registry), str(registry)), (1,) + ("Registry(1 kinds, 1 bodies)",) * 2)

    def test_a_copy_is_equal(self):
        registry = sample()
        self.assertEqual(copy.deepcopy(registry), registry)

    def test_errors_of_wrong_kinds_do_not_change_anything(self):
        registry = sample()
        self.assertEqual(told(registry.line, "z"), ("NoKind", {"name": "z"}))
        self.assertEqual(registry, sample())


if __name__ == "__main__":
    unittest.main()

"""Points 7 and 8: kinds, their lines, and edits; what point 2 says of arguments and errors."""

import unittest

from openlines.errors import (
    Absent, InUse, NoBases, NoBody, NoCall, NoKind, NoLine, NoName, Nothing, Taken, TooMany,
)
from openlines.registry import Registry
from told import kept, refused, told
from values import ANY_VALUES, replaced

TEN = "abcdefghij"
NEXT = (("next",),)


def ten_kinds():
    return Registry.built([(name, ()) for name in TEN])


def diamond():
    return Registry.built((("d", ()), ("b", ("d",)), ("c", ("d",)), ("a", ("b", "c"))))


def wrong_base(thing, good):
    """The index that NoBases has for any value; None if it is a tuple of distinct good kinds."""
    if type(thing) is not tuple or len(thing) > 10:
        return -1
    wrong = [at for at in range(len(thing)) if thing[at] not in tuple(good) or thing[at] in thing[:at]]
    return wrong[0] if wrong else None


class AddTest(unittest.TestCase):
    def test_lines(self):
        registry = diamond()
        self.assertEqual(registry.line("d"), ("d",))
        self.assertEqual(registry.line("b"), ("b", "d"))
        self.assertEqual(registry.line("a"), ("a", "b", "c", "d"))

    def test_the_base_list_is_the_last_list(self):
        registry = Registry.built((("p", ()), ("q", ()), ("r", ("p", "q")), ("s", ("p",))))
        self.assertEqual(registry.add("t", ("s", "r")), [])
        self.assertEqual(registry.line("t"), ("t", "s", "r", "p", "q"))
        registry.add("u", ("q", "s"))
        self.assertEqual(registry.line("u"), ("u", "q", "s", "p"))
        ring = (("p", "q", 0), ("q", "p", 1))
        refused(self, registry, NoLine, {"kind": "v", "ring": ring}, registry.add, "v", ("r", "u"))
        ring = (("p", "r", 2), ("r", "p", 1))
        refused(self, registry, NoLine, {"kind": "v", "ring": ring}, registry.add, "v", ("p", "r"))

    def test_without_bases(self):
        registry = Registry()
        self.assertEqual(registry.add("a"), [])
        self.assertEqual((registry.bases("a"), registry.line("a"), registry.calls("a")), ((), ("a",), []))

    def test_names_of_eight_letters(self):
        registry = Registry()
        registry.add("abcdefgh")
        registry.add("z", ("abcdefgh",))
        self.assertEqual(registry.line("z"), ("z", "abcdefgh"))
        refused(self, registry, NoName, {"name": "abcdefghi"}, registry.add, "abcdefghi")

    def test_any_value_as_a_name(self):
        registry = diamond()
        for thing in list(ANY_VALUES) + ["A", "a1", "", " ", "a b", "Ab"]:
            if type(thing) is str and thing.isalpha() and thing.islower():
                continue
            refused(self, registry, NoName, {"name": thing}, registry.add, thing, thing)

    def test_any_value_as_bases(self):
        for thing in list(ANY_VALUES) + list(replaced(("b", "c"))):
            registry = Registry.built((("a", ()), ("b", ()), ("c", ())))
            at = wrong_base(thing, "abc")
            if at is None:
                self.assertEqual(registry.add("z", thing), [])
                self.assertEqual(registry.bases("z"), thing)
            else:
                self.assertEqual(told(registry.add, "z", thing), ("NoBases", {"at": at}))
                self.assertEqual((registry.kinds(), registry.deeds), (["a", "b", "c"], 3))

    def test_no_bases(self):
        registry = diamond()
        for bases, at in ((["b"], -1), (None, -1), ("b", -1), (("b",) * 11, -1), (("b", "b"), 1), (("z",), 0),
                          (("b", "z", "b"), 1), (("b", "b", "z"), 1), (("b", 1), 1), (("b", ("c",)), 1)):
            refused(self, registry, NoBases, {"at": at}, registry.add, "e", bases)

    def test_the_new_kind_is_no_base_of_itself(self):
        registry = diamond()
        refused(self, registry, NoBases, {"at": 1}, registry.add, "e", ("a", "e"))

    def test_at_most_ten_kinds(self):
        registry = ten_kinds()
        refused(self, registry, TooMany, {}, registry.add, "k")
        refused(self, registry, TooMany, {}, registry.add, "k", tuple(TEN))
        registry.drop("j")
        self.assertEqual(registry.add("k", tuple("ihgfedcba")), [])
        self.assertEqual(registry.line("k"), tuple("kihgfedcba"))

    def test_ten_bases(self):
        registry = ten_kinds()
        refused(self, registry, NoBases, {"at": -1}, registry.add, "k", tuple(TEN) + ("a",))
        refused(self, registry, NoBases, {"at": 9}, registry.add, "k", tuple("abcdefghia"))

    def test_the_order_of_errors(self):
        registry = ten_kinds()
        registry.rebase("b", ("a",))
        refused(self, registry, NoName, {"name": "A"}, registry.add, "A", None)
        refused(self, registry, Taken, {"name": "a"}, registry.add, "a", None)
        refused(self, registry, NoBases, {"at": -1}, registry.add, "k", None)
        refused(self, registry, NoBases, {"at": 2}, registry.add, "k", ("a", "b", "z"))
        refused(self, registry, TooMany, {}, registry.add, "k", ("a", "b"))
        registry.drop("j")
        ring = (("a", "b", 2), ("b", "a", 1))
        refused(self, registry, NoLine, {"kind": "k", "ring": ring}, registry.add, "k", ("a", "b"))

    def test_keywords(self):
        registry = Registry()
        registry.add(name="a")
        registry.add(bases=("a",), name="b")
        registry.add("c", bases=("b",))
        self.assertEqual(registry.line("c"), ("c", "b", "a"))


class RebaseTest(unittest.TestCase):
    def test_all_kinds_below_get_new_lines(self):
        registry = diamond()
        registry.add("e")
        self.assertEqual(registry.rebase("d", ("e",)), [])
        self.assertEqual(registry.line("d"), ("d", "e"))
        self.assertEqual(registry.line("a"), ("a", "b", "c", "d", "e"))
        registry.rebase("b", ())
        self.assertEqual(registry.line("a"), ("a", "b", "c", "d", "e"))
        self.assertEqual(registry.bases("b"), ())
        registry.rebase("c", ())
        self.assertEqual(registry.line("a"), ("a", "b", "c"))
        self.assertEqual(registry.line("d"), ("d", "e"))

    def test_another_order(self):
        registry = diamond()
        registry.rebase("a", ("c", "b"))
        self.assertEqual(registry.line("a"), ("a", "c", "b", "d"))

    def test_bodies_stay(self):
        registry = diamond()
        registry.set_body("a", "f", NEXT)
        registry.rebase("a", ())
        self.assertEqual(registry.body("a", "f"), NEXT)

    def test_the_kind_itself_and_kinds_below_are_no_bases(self):
        registry = diamond()
        for bases, at in ((("d",), 0), (("b",), 0), (("a",), 0), (["b"], -1), (("e",), 0)):
            refused(self, registry, NoBases, {"at": at}, registry.rebase, "d", bases)
        refused(self, registry, NoBases, {"at": 1}, registry.rebase, "b", ("c", "a"))
        refused(self, registry, NoBases, {"at": 1}, registry.rebase, "b", ("d", "b"))
        refused(self, registry, NoBases, {"at": 1}, registry.rebase, "b", ("d", "d"))
        self.assertEqual(registry.rebase("b", ("c",)), [])
        self.assertEqual(registry.line("a"), ("a", "b", "c", "d"))

    def test_the_first_kind_without_a_line(self):
        rows = [("p", ()), ("q", ()), ("m", ("p", "q")), ("x", ()), ("b", ("x", "m")), ("a", ("b",)), ("c", ("x", "m"))]
        registry = Registry.built(rows)
        ring = (("p", "q", 1), ("q", "p", 0))
        refused(self, registry, NoLine, {"kind": "b", "ring": ring}, registry.rebase, "x", ("q", "p"))
        registry.rebase("b", ())
        refused(self, registry, NoLine, {"kind": "c", "ring": ring}, registry.rebase, "x", ("q", "p"))

    def test_the_kind_itself_has_no_line(self):
        registry = diamond()
        registry.add("e", ("d",))
        ring = (("d", "e", 2), ("e", "d", 1))
        refused(self, registry, NoLine, {"kind": "b", "ring": ring}, registry.rebase, "b", ("d", "e"))

    def test_least_names_are_taken_first_of_those_that_are_ready(self):
        # Both a and b lose their lines; a is built on c, which is taken behind b.
        rows = [("p", ()), ("q", ()), ("m", ("p", "q")), ("x", ()), ("c", ("x",)), ("a", ("c", "m")), ("b", ("x", "m"))]
        registry = Registry.built(rows)
        ring = (("p", "q", 1), ("q", "p", 0))
        refused(self, registry, NoLine, {"kind": "b", "ring": ring}, registry.rebase, "x", ("q", "p"))
        registry.rebase("a", ("m",))
        registry.rebase("c", ("x", "m"))
        refused(self, registry, NoLine, {"kind": "b", "ring": ring}, registry.rebase, "x", ("q", "p"))
        registry.drop("b")
        refused(self, registry, NoLine, {"kind": "c", "ring": ring}, registry.rebase, "x", ("q", "p"))

    def test_the_order_of_errors(self):
        registry = diamond()
        registry.add("e", ("d",))
        refused(self, registry, NoKind, {"name": "z"}, registry.rebase, "z", None)
        refused(self, registry, NoBases, {"at": 2}, registry.rebase, "b", ("d", "e", "b"))
        self.assertEqual(told(registry.rebase, "b", ("d", "e"))[0], "NoLine")

    def test_any_value(self):
        registry = diamond()
        for thing in ANY_VALUES:
            if thing not in ("a", "b"):
                refused(self, registry, NoKind, {"name": thing}, registry.rebase, thing, ())
            at = wrong_base(thing, "cd")
            if at is not None:
                refused(self, registry, NoBases, {"at": at}, registry.rebase, "b", thing)
        for thing in replaced(("c", "d")):
            at = wrong_base(thing, "cd")
            if at is None:
                registry.rebase("b", thing)
                registry.undo()
            else:
                self.assertEqual(told(registry.rebase, "b", thing), ("NoBases", {"at": at}))

    def test_the_same_bases(self):
        registry = diamond()
        before = registry.deeds
        self.assertEqual(registry.rebase("a", ("b", "c")), [])
        self.assertEqual(registry.deeds, before + 1)
        self.assertEqual(registry.undo(), [])
        self.assertEqual(registry.line("a"), ("a", "b", "c", "d"))

    def test_keywords(self):
        registry = diamond()
        registry.rebase(bases=("b",), name="a")
        self.assertEqual(registry.line("a"), ("a", "b", "d"))

    def test_ten_kinds(self):
        registry = ten_kinds()
        registry.rebase("a", tuple("bcdefghij"))
        self.assertEqual(registry.line("a"), tuple(TEN))
        for at in range(1, 9):
            registry.rebase(TEN[at], (TEN[at + 1],))
        self.assertEqual((registry.line("a"), registry.line("b")), (tuple(TEN), tuple("bcdefghij")))
        refused(self, registry, NoLine, {"kind": "a", "ring": (("b", "c", 1), ("c", "b", 2))},
                registry.rebase, "a", ("c", "b"))
        refused(self, registry, NoBases, {"at": 0}, registry.rebase, "j", ("b",))


class DropTest(unittest.TestCase):
    def test_a_kind_is_removed_with_its_bodies(self):
        registry = diamond()
        registry.set_body("a", "f", NEXT)
        registry.set_body("b", "f", NEXT)
        registry.drop("a")
        self.assertEqual((registry.kinds(), repr(registry)), (["b", "c", "d"], "Registry(3 kinds, 1 bodies)"))
        registry.add("a")
        self.assertEqual(registry.calls("a"), [])

    def test_in_use(self):
        registry = diamond()
        for name in ("b", "c", "d"):
            refused(self, registry, InUse, {"name": name}, registry.drop, name)
        registry.make("a")
        refused(self, registry, InUse, {"name": "a"}, registry.drop, "a")
        registry.move(0, "b")
        registry.drop("a")
        refused(self, registry, InUse, {"name": "b"}, registry.drop, "b")
        registry.discard(0)
        registry.drop("b")
        self.assertEqual(registry.kinds(), ["c", "d"])

    def test_any_value(self):
        registry = diamond()
        for thing in ANY_VALUES:
            if thing not in ("a", "b"):
                refused(self, registry, NoKind, {"name": thing}, registry.drop, thing)

    def test_keywords(self):
        registry = diamond()
        registry.drop(name="a")
        self.assertFalse(registry.has("a"))

    def test_bodies_of_a_dropped_kind_do_not_count(self):
        registry = ten_kinds()
        for name in TEN[:6]:
            registry.set_body(name, "f", ())
        registry.drop("a")
        registry.set_body("g", "f", ())
        refused(self, registry, TooMany, {}, registry.set_body, "h", "f", ())


class BodyTest(unittest.TestCase):
    def test_set_and_clear(self):
        registry = diamond()
        self.assertEqual(registry.set_body("a", "f", NEXT), [])
        self.assertEqual(registry.body("a", "f"), NEXT)
        self.assertEqual(registry.set_body("a", "f", ()), [])
        self.assertEqual(registry.body("a", "f"), ())
        self.assertEqual(registry.clear_body("a", "f"), [])
        self.assertIs(registry.body("a", "f"), None)

    def test_at_most_four_bodies_of_a_kind(self):
        registry = diamond()
        for call in ("f", "g", "h", "abcdefgh"):
            registry.set_body("a", call, ())
        refused(self, registry, TooMany, {}, registry.set_body, "a", "i", ())
        registry.set_body("a", "h", NEXT)
        registry.set_body("b", "i", ())
        registry.clear_body("a", "f")
        registry.set_body("a", "i", ())
        self.assertEqual(registry.calls("a"), ["abcdefgh", "g", "h", "i"])

    def test_at_most_six_kinds_with_a_body_for_a_call(self):
        registry = ten_kinds()
        for name in TEN[:6]:
            registry.set_body(name, "f", ())
        for name in TEN[6:]:
            refused(self, registry, TooMany, {}, registry.set_body, name, "f", ())
            registry.set_body(name, "g", ())
        registry.set_body("a", "f", NEXT)
        registry.clear_body("c", "f")
        registry.set_body("j", "f", ())
        refused(self, registry, TooMany, {}, registry.set_body, "c", "f", ())

    def test_bodies_of_six_rows(self):
        registry = diamond()
        registry.set_body("a", "f", (("next",), ("say", "abcdefgh"), ("call", "g")) * 2)
        self.assertEqual(len(registry.body("a", "f")), 6)
        refused(self, registry, NoBody, {"at": -1}, registry.set_body, "a", "f", (("next",),) * 7)

    def test_no_body(self):
        registry = diamond()
        for body, at in (([], -1), ("next", -1), (None, -1), (("next",), 0), ((("next",), ("call", "f")), 1),
                         ((("call", "e"), ("say",)), 0), ((("next",),) * 5 + (["next"],), 5), (((),), 0),
                         ((("say", "hi"), ("say", "Hi"), None), 1)):
            refused(self, registry, NoBody, {"at": at}, registry.set_body, "a", "f", body)

    def test_the_order_of_errors(self):
        registry = ten_kinds()
        for call in ("f", "g", "h", "i"):
            registry.set_body("a", call, ())
        refused(self, registry, NoKind, {"name": "A"}, registry.set_body, "A", "F", None)
        refused(self, registry, NoCall, {"call": "F"}, registry.set_body, "a", "F", None)
        refused(self, registry, NoBody, {"at": 0}, registry.set_body, "a", "j", (("call", "j"),))
        refused(self, registry, TooMany, {}, registry.set_body, "a", "j", ())
        refused(self, registry, NoKind, {"name": "A"}, registry.clear_body, "A", "F")
        refused(self, registry, Absent, {"kind": "a", "call": "F"}, registry.clear_body, "a", "F")
        refused(self, registry, Absent, {"kind": "a", "call": "j"}, registry.clear_body, "a", "j")
        refused(self, registry, Absent, {"kind": "b", "call": "f"}, registry.clear_body, "b", "f")

    def test_any_value(self):
        registry = diamond()
        registry.set_body("b", "g", ())
        for thing in ANY_VALUES:
            if thing not in ("a", "b"):
                refused(self, registry, NoKind, {"name": thing}, registry.set_body, thing, thing, thing)
                refused(self, registry, NoKind, {"name": thing}, registry.clear_body, thing, thing)
            if not registry.is_name(thing):
                refused(self, registry, NoCall, {"call": thing}, registry.set_body, "a", thing, thing)
            refused(self, registry, Absent, {"kind": "a", "call": thing}, registry.clear_body, "a", thing)

    def test_any_value_as_a_body(self):
        registry = diamond()
        for thing in list(ANY_VALUES) + list(replaced((("next",), ("say", "a"), ("call", "g")))):
            at = None
            if type(thing) is not tuple or len(thing) > 6:
                at = -1
            else:
                good = ("('next',)", "('say', 'a')", "('say', 'b')", "('say', 'next')", "('say', 'say')",
                        "('say', 'call')", "('say', 'g')", "('call', 'g')", "('call', 'next')", "('call', 'say')")
                wrong = [k for k in range(len(thing)) if repr(thing[k]) not in good]
                at = wrong[0] if wrong else None
            if at is None:
                self.assertEqual(registry.set_body("a", "f", thing), [])
                self.assertEqual(registry.body("a", "f"), thing)
            else:
                self.assertEqual(told(registry.set_body, "a", "f", thing), ("NoBody", {"at": at}), thing)

    def test_keywords(self):
        registry = diamond()
        registry.set_body(body=NEXT, call="f", kind="a")
        self.assertEqual(registry.body(call="f", kind="a"), NEXT)
        registry.clear_body(call="f", kind="a")
        self.assertIs(registry.body("a", "f"), None)


class UndoTest(unittest.TestCase):
    def test_each_edit_is_taken_back(self):
        registry = Registry()
        deeds = [("add", "d"), ("add", "c", ("d",)), ("set_body", "c", "f", NEXT), ("add", "b"),
                 ("rebase", "c", ("b",)), ("set_body", "c", "f", ()), ("clear_body", "c", "f"), ("set_body", "d", "f", ()), ("drop", "d"),
                 ("add", "d", ("c",)), ("rebase", "d", ("b",)), ("rebase", "d", ("b",))]
        states = []
        for word, *arguments in deeds:
            states.append(kept(registry))
            self.assertEqual(getattr(registry, word)(*arguments), [])
        self.assertEqual(registry.deeds, len(deeds))
        while states:
            self.assertEqual(registry.undo(), [])
            self.assertEqual(kept(registry), states.pop())
        self.assertEqual(registry, Registry())

    def test_nothing(self):
        registry = Registry()
        refused(self, registry, Nothing, {}, registry.undo)
        registry.add("a")
        registry.undo()
        refused(self, registry, Nothing, {}, registry.undo)
        self.assertEqual((registry.kinds(), registry.deeds), ([], 0))

    def test_what_was_taken_back_is_not_taken_back_again(self):
        registry = Registry()
        registry.add("a")
        registry.add("b")
        registry.undo()
        registry.add("c")
        registry.undo()
        self.assertEqual((registry.kinds(), registry.deeds), (["a"], 1))

    def test_edits_that_raise_are_no_deeds(self):
        registry = diamond()
        for word, arguments in (("add", ("a",)), ("add", ("A",)), ("rebase", ("z", ())), ("drop", ("d",)),
                                ("set_body", ("a", "f", None)), ("clear_body", ("a", "f"))):
            self.assertNotEqual(told(getattr(registry, word), *arguments)[0], "returned")
        self.assertEqual(registry.deeds, 4)
        registry.undo()
        self.assertEqual(registry.kinds(), ["b", "c", "d"])

    def test_lookups_and_readings_are_no_deeds(self):
        registry = diamond()
        registry.first("a", "f")
        registry.following("a", "b", "f")
        registry.run("a", "f")
        registry.below("d")
        self.assertEqual(registry.deeds, 4)

    def test_two_registries_share_nothing(self):
        one, other = diamond(), diamond()
        one.set_body("a", "f", NEXT)
        one.first("a", "f")
        one.make("a")
        self.assertEqual((other.deeds, other.cached(), other.objects(), repr(other)),
                         (4, [], [], "Registry(4 kinds, 0 bodies)"))
        self.assertEqual(Registry().kinds(), [])


if __name__ == "__main__":
    unittest.main()

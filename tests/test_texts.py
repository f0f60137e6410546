"""Point 22: bodies, registries and events, written as strings."""

import random
import unittest

from openlines.errors import NoText
from openlines.registry import Registry
from openlines.rows import is_body
from openlines.texts import read_body, read_registry, show_body, show_event, show_registry
from plain import Plain, plain_text, plain_wrong_line, plain_wrong_row
from small import some_rows
from told import told
from values import ANY_VALUES

ROWS = (("next",), ("say", "hi"), ("say", "next"), ("call", "g"), ("call", "abcdefgh"), ("say", "abcdefgh"))
WORDS = ("kind", "body", "a", "b", "f", "next", "say", "call", "-", "", ",", " ", "\n", ", ", "A", "abcdefghi", "z")


def some_registry(chance, many):
    """A random registry with bodies, and the same one word for word."""
    rows = some_rows(chance, many)
    registry, plain = Registry.built(rows), Plain()
    for name, bases in rows:
        plain.add(name, bases)
    for _ in range(chance.randrange(3 * many + 1)):
        kind, call = chance.choice(registry.kinds()), chance.choice(["f", "g", "h", "abcdefgh"])
        body = tuple([chance.choice(ROWS) for _ in range(chance.randrange(7))])
        if told(plain.set_body, kind, call, body)[0] == "returned":
            registry.set_body(kind, call, body)
    return registry, plain


def changed(chance, string):
    """A string with some part replaced, put in or left out."""
    at = chance.randrange(len(string) + 1)
    end = at + chance.choice((0, 0, 1, 1, 2, 5))
    lines = string.split("\n")
    if chance.random() < 0.3:
        row = chance.choice(lines)
        place = chance.randrange(len(lines) + 1)
        lines[place:place + chance.randrange(2)] = [row] * chance.randrange(2)
        return "\n".join(lines)
    return string[:at] + chance.choice(WORDS) + string[end:]


class BodyTest(unittest.TestCase):
    def test_show_body(self):
        rows = [((), "-"), ((("next",),), "next"), ((("say", "hi"), ("next",), ("call", "g")), "say hi, next, call g"),
                ((("say", "say"),) * 6, ", ".join(["say say"] * 6))]
        for body, string in rows:
            self.assertEqual(show_body(body), string)
            self.assertEqual(read_body("f", string), body)

    def test_read_body(self):
        rows = [
            ("", 0), ("-, next", 0), ("next, -", 1), ("--", 0), (" next", 0), ("next ", 0), ("next,next", 0),
            ("next,  next", 1), ("next, ", 1), (", next", 0), ("next , next", 0), ("say", 0), ("say ", 0),
            ("say  hi", 0), ("say hi ho", 0), ("say Hi", 0), ("say abcdefghi", 0), ("call f", 0), ("call e", 0),
            ("call g, call f", 1), ("call", 0), ("next, next hi", 1), ("Next", 0), ("next\n", 0), ("say hi\n", 0),
            ("next;next", 0), ("say -", 0), ("next, next, next, next, next, nex", 5), ("say h1", 0),
        ]
        for string, at in rows:
            self.assertEqual(told(read_body, "f", string), ("NoText", {"at": at}), string)

    def test_more_than_six_rows(self):
        six = ", ".join(["next"] * 6)
        self.assertEqual(read_body("f", six), (("next",),) * 6)
        for more in (", next", ", ", ", -", ", next, next", ", Next", ", call a"):
            self.assertEqual(told(read_body, "f", six + more), ("NoText", {"at": 6}))
        for string in (six + ",", six + " ", six + " next"):
            self.assertEqual(told(read_body, "f", string), ("NoText", {"at": 5}))
        self.assertEqual(told(read_body, "f", "next, x, " + six), ("NoText", {"at": 1}))
        self.assertEqual(told(read_body, "f", six[:-4] + "call f, next"), ("NoText", {"at": 5}))

    def test_any_value(self):
        for thing in ANY_VALUES:
            if not isinstance(thing, str):
                self.assertEqual(told(read_body, "f", thing), ("NoText", {"at": -1}))
                self.assertEqual(told(read_registry, thing), ("NoText", {"at": -1}))
        for thing in ANY_VALUES + ("next, " * 500, "-" * 3000, ", " * 1000, " " * 3000, "\n" * 3000):
            if isinstance(thing, str) and plain_wrong_row("f", thing) is not None:
                self.assertEqual(told(read_body, "f", thing), ("NoText", {"at": plain_wrong_row("f", thing)}))
            if isinstance(thing, str) and plain_wrong_line(thing) is not None:
                self.assertEqual(told(read_registry, thing), ("NoText", {"at": plain_wrong_line(thing)}))

    def test_changed_strings(self):
        chance = random.Random(1)
        good = 0
        for _ in range(20000):
            body = tuple([chance.choice(ROWS) for _ in range(chance.randrange(7))])
            string = show_body(body)
            for _ in range(chance.randrange(3)):
                string = changed(chance, string)
            at = plain_wrong_row("f", string)
            if at is None:
                good += 1
                found = read_body("f", string)
                self.assertIs(is_body("f", found), True)
                self.assertEqual(show_body(found), string)
            else:
                self.assertEqual(told(read_body, "f", string), ("NoText", {"at": at}), string)
        self.assertGreater(good, 5000)


class RegistryTest(unittest.TestCase):
    def test_a_written_registry(self):
        registry = Registry.built((("b", ()), ("c", ()), ("a", ("c", "b"))))
        registry.set_body("c", "g", ())
        registry.set_body("c", "f", (("say", "hi"), ("next",)))
        registry.set_body("a", "f", (("call", "g"),))
        string = "kind b\nkind c\nbody f say hi, next\nbody g -\nkind a c b\nbody f call g"
        self.assertEqual(show_registry(registry), string)
        self.assertEqual(read_registry(string), registry)

    def test_the_empty_registry(self):
        self.assertEqual(show_registry(Registry()), "")
        self.assertEqual(read_registry(""), Registry())
        self.assertEqual(read_registry("").deeds, 0)

    def test_the_order_of_the_kinds(self):
        registry = Registry.built((("c", ()), ("a", ("c",)), ("d", ()), ("b", ("d", "a"))))
        self.assertEqual(show_registry(registry), "kind c\nkind a c\nkind d\nkind b d a")
        for string in ("kind c\nkind d\nkind a c\nkind b d a", "kind d\nkind c\nkind a c\nkind b d a"):
            self.assertEqual(told(read_registry, string), ("NoText", {"at": 4}))

    def test_only_kinds_and_bodies_are_written(self):
        registry = Registry.built((("a", ()),))
        registry.set_body("a", "f", ())
        string = show_registry(registry)
        registry.begin(registry.make("a"), "f")
        registry.first("a", "f")
        self.assertEqual(show_registry(registry), string)
        made = read_registry(string)
        self.assertEqual((made.objects(), made.opened(), made.cached(), made.deeds), ([], [], [], 0))
        self.assertEqual(told(made.undo), ("Nothing", {}))
        self.assertEqual((made.make("a"), made.begin(0, "f"), made.deeds), (0, 0, 2))

    def test_a_read_registry_is_new(self):
        one, other = read_registry("kind a"), read_registry("kind a")
        one.set_body("a", "f", ())
        self.assertEqual(other.calls("a"), [])
        self.assertEqual(one.undo(), [])
        self.assertEqual((one, one.deeds), (other, 0))

    def test_wrong_lines(self):
        ten = "\n".join(["kind " + name for name in "abcdefghij"])
        many = "\n".join(["kind a"] + ["body " + call + " -" for call in "fghi"])
        seven = "\n".join(["kind " + name + "\nbody f -" for name in "abcdef"])
        rows = [
            ("kind", 0), ("kind ", 0), (" kind a", 0), ("kind  a", 0), ("kind a ", 0), ("kind a  b", 0), ("Kind a", 0),
            ("kind A", 0), ("kind abcdefghi", 0), ("kind a\n", 1), ("\nkind a", 0), ("\n", 0), ("kind a\n\nkind b", 1),
            ("body f next", 0), ("kind a\nbody f", 1), ("kind a\nbody f ", 1), ("kind a\nbody F -", 1),
            ("kind a\nbody f call f", 1), ("kind a\nbody f next, ", 1), ("kind a\nbody", 1), ("kind a\nbody  -", 1),
            ("kind a\nbody f  next", 1), ("kind a\nbody f next ", 1), ("kind a\nbodyf next", 1), ("kind a\nnext", 1),
            ("kind a\nkind a", 1), ("kind a b\nkind b", 0), ("kind a\nkind b a a", 1), ("kind a\nkind b b", 1),
            ("kind a\nkind b a\nkind c a b", 2), ("kind b\nkind a", 2), ("kind a\nbody g -\nbody f -", 3),
            ("kind a\nbody f -\nbody f -", 3), ("kind a\nbody f next\nbody f -", 3), ("kind a\n body f -", 1),
            (ten + "\nkind k", 10), (many + "\nbody j -", 5), (many + "\nbody i -", 6), (many + "\nbody f -", 6),
            (seven + "\nkind g\nbody f -", 13), (seven + "\nkind g\nbody g -\nkind ", 14),
            ("kind b\nkind a\nkind a", 2),
            ("kind a\nbody f " + ", ".join(["next"] * 7), 1), (" ", 0), ("-", 0), ("kind a\r\nkind b", 0),
        ]
        for string, at in rows:
            self.assertEqual(told(read_registry, string), ("NoText", {"at": at}), string)
            self.assertEqual(plain_wrong_line(string), at, string)
        for string in (ten, many, seven):
            self.assertEqual(show_registry(read_registry(string)), string)

    def test_random_registries(self):
        chance = random.Random(2)
        for many in range(1, 11):
            for _ in range(8):
                registry, plain = some_registry(chance, many)
                string = show_registry(registry)
                self.assertEqual(string, plain_text(plain))
                made = read_registry(string)
                self.assertEqual(made, registry)
                self.assertEqual(made.deeds, 0)
                for kind in registry.kinds():
                    self.assertEqual(made.line(kind), registry.line(kind))

    def test_changed_strings(self):
        chance = random.Random(3)
        good, seen = 0, {}
        for _ in range(3000):
            registry, _ = some_registry(chance, chance.randrange(1, 5))
            string = show_registry(registry)
            for _ in range(chance.choice((1, 1, 2))):
                string = changed(chance, string)
            at = plain_wrong_line(string)
            if at is None:
                good += 1
                self.assertEqual(show_registry(read_registry(string)), string)
            else:
                self.assertEqual(told(read_registry, string), ("NoText", {"at": at}), string)
                seen[at] = True
        self.assertGreater(good, 100)
        self.assertGreater(len(seen), 8)


class EventTest(unittest.TestCase):
    def test_events(self):
        rows = [(("say", "a", "one"), "say a one"), (("lost", None, "f"), "lost - f"), (("lost", "a", "f"), "lost a f"),
                (("enter", "b", "f"), "enter b f"), (("leave", "b", "f"), "leave b f")]
        for event, string in rows:
            self.assertEqual(show_event(event), string)

    def test_keywords(self):
        self.assertEqual(show_event(event=("say", "a", "one")), "say a one")
        self.assertEqual(show_body(body=()), "-")
        self.assertEqual(read_body(string="call g", call="f"), (("call", "g"),))
        self.assertEqual(show_registry(registry=read_registry(string="kind a")), "kind a")
        with self.assertRaises(NoText) as caught:
            read_registry(string=None)
        self.assertEqual(caught.exception.at, -1)


if __name__ == "__main__":
    unittest.main()

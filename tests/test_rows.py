"""Point 4: rows and bodies; point 2: what a name and an integer are."""

import copy
import random
import unittest

from openlines.names import is_integer, is_name
from openlines.rows import is_body
from plain import plainly_name, plainly_row
from values import ANY_VALUES, VALUES_BUT_DESKS, replaced


def plainly_body(call, thing):
    return isinstance(thing, tuple) and len(thing) < 7 and False not in [plainly_row(call, row) for row in thing]


class BodyTest(unittest.TestCase):
    def body(self, call, thing):
        self.assertIs(is_body(call, thing), True)

    def no_body(self, call, thing):
        self.assertIs(is_body(call, thing), False)

    def test_examples_of_the_document(self):
        self.body("f", (("say", "hi"), ("next",)))
        self.no_body("f", (("call", "f"),))

    def test_keywords(self):
        self.assertIs(is_body(call="f", thing=()), True)
        self.assertIs(is_body("f", thing=(("next",),)), True)
        self.assertIs(is_body(thing=(("call", "f"),), call="f"), False)

    def test_at_most_six_rows(self):
        for many in range(7):
            self.body("f", (("next",),) * many)
        self.no_body("f", (("next",),) * 7)
        self.no_body("f", (("next",),) * 5000)

    def test_only_greater_names_are_called(self):
        self.body("f", (("call", "g"),))
        self.body("f", (("call", "fa"),))
        self.body("a", (("call", "zzzzzzzz"),))
        self.no_body("f", (("call", "e"),))
        self.no_body("fa", (("call", "f"),))
        self.no_body("f", (("call", "ezzzzzzz"),))
        self.no_body("f", (("call", "g"), ("call", "f")))

    def test_any_name_is_said(self):
        for word in ("a", "f", "z", "say", "next", "call", "abcdefgh"):
            self.body("f", (("say", word),))

    def test_words_that_are_no_names(self):
        for word in ("", "abcdefghi", "A", "aB", "a1", "a ", "a_b", "\n", "a\n", "~", 1, True, None, ("a",), ["a"]):
            self.no_body("f", (("say", word),))
            self.no_body("f", (("call", word),))
            self.no_body("f", (("call", "g"), ("say", word)))

    def test_greater_strings_that_are_no_names_are_not_called(self):
        for name in ("g1", "ghijklmno", "~", "g h"):
            self.no_body("f", (("call", name),))

    def test_rows_of_other_forms(self):
        for row in (("next", "a"), ("next", None), ("say",), ("call",), ("say", "a", "b"), ("call", "g", "h"),
                    (), ("",), ("Next",), ("SAY", "a"), ("hear", "a"), "next", ["next"], ["say", "a"], "say",
                    (("next",),), (["next"],), (("say", "a"),), ("a", "say"), (None, "a"), (True,)):
            self.no_body("f", (row,))
            self.no_body("f", (("next",), row))

    def test_bodies_of_other_forms(self):
        self.no_body("f", [("next",)])
        self.no_body("f", [])
        self.no_body("f", ("next",))
        self.no_body("f", "next")
        self.no_body("f", None)

    def test_only_a_name_has_bodies(self):
        for call in ("", "F", "abcdefghi", "f1", None, 1, True, ("f",), ["f"]):
            self.no_body(call, ())
            self.no_body(call, (("next",),))

    def test_any_value(self):
        for thing in ANY_VALUES:
            self.assertIs(is_body("f", thing), plainly_body("f", thing))

    def test_any_value_in_a_body(self):
        body = (("say", "hi"), ("next",), ("call", "g"))
        seen = [0, 0]
        for thing in replaced(body):
            self.assertIs(is_body("f", thing), plainly_body("f", thing))
            seen[is_body("f", thing)] += 1
        self.assertTrue(min(seen) > 10)

    def test_many_bodies(self):
        chance = random.Random(4)
        words = ["say", "next", "call", "say", "call", "f", ""]
        names = ["a", "e", "f", "fa", "g", "zzzzzzzz", "zzzzzzzzz", "", "G", 3, None]
        for _ in range(5000):
            thing = tuple([tuple([chance.choice(words)] + [chance.choice(names)] * chance.choice((0, 1, 1, 1, 2)))
                           for _ in range(chance.randrange(3))])
            self.assertIs(is_body("f", thing), plainly_body("f", thing))

    def test_arguments_are_not_changed(self):
        for thing in VALUES_BUT_DESKS:
            before = copy.deepcopy(thing)
            is_body("f", thing)
            self.assertEqual(thing, before)


class NameTest(unittest.TestCase):
    def test_names(self):
        for thing in ("a", "z", "abcdefgh", "zzzzzzzz", "next"):
            self.assertIs(is_name(thing), True)

    def test_other_values(self):
        for thing in ("", "abcdefghi", "A", "a1", "1", " ", "a b", "a\n", "`", "{", "\u00e9", b"a", ("a",), ["a"]):
            self.assertIs(is_name(thing), False)
        for thing in ANY_VALUES:
            self.assertIs(is_name(thing), plainly_name(thing))

    def test_integers(self):
        for thing in (0, 1, -1, 10 ** 59, -(10 ** 59)):
            self.assertIs(is_integer(thing), True)
        for thing in (True, False, None, "1", "", (), [], (1,), [1]):
            self.assertIs(is_integer(thing), False)


if __name__ == "__main__":
    unittest.main()

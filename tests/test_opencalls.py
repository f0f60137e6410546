"""Points 13 to 15: objects, open calls, and the rest of a call."""

import unittest

from openlines.errors import (
    Busy, NoCall, NoKind, NoObject, NoOpen, Nothing, TooDeep, TooLong, TooMany,
)
from openlines.registry import Registry
from small import of_many_bodies
from told import kept, refused, told
from values import ANY_VALUES

NEXT = (("next",),)


def sample():
    """Kinds a on b and c on d, bodies for f and g; an object of a."""
    registry = Registry.built((("d", ()), ("b", ("d",)), ("c", ("d",)), ("a", ("b", "c"))))
    registry.set_body("b", "f", (("say", "one"), ("next",), ("call", "g"), ("say", "two")))
    registry.set_body("c", "f", (("next",), ("say", "three")))
    registry.set_body("d", "g", (("say", "four"),))
    registry.make("a")
    return registry


def two_lines():
    """Kinds p on a and b, q on b and a; an object of p: each next of a body leads to the other if it is moved."""
    registry = Registry.built((("a", ()), ("b", ()), ("p", ("a", "b")), ("q", ("b", "a"))))
    registry.set_body("a", "f", NEXT)
    registry.set_body("b", "f", NEXT)
    registry.make("p")
    registry.begin(0, "f")
    return registry


def deepened(registry, many):
    """Enter bodies until so many are on the stack of call 0."""
    registry.step(0)
    while len(registry.stack(0)) < many:
        registry.move(0, "p" if registry.stack(0)[-1][0] == "a" else "q")
        registry.step(0)
    # The next row of the top body would enter one more.
    registry.move(0, "p" if registry.stack(0)[-1][0] == "a" else "q")
    return registry


def numbers_that_are_none():
    return [thing for thing in ANY_VALUES if repr(thing) not in ("0",)] + [False, True, 2, "0", (0,), [0]]


class ObjectTest(unittest.TestCase):
    def test_numbers_are_given_in_order(self):
        registry = sample()
        self.assertEqual((registry.make("b"), registry.make("a")), (1, 2))
        registry.discard(1)
        self.assertEqual(registry.make("d"), 3)
        self.assertEqual(registry.objects(), [(0, "a"), (2, "a"), (3, "d")])

    def test_numbers_after_undo(self):
        registry = sample()
        registry.make("b")
        registry.undo()
        self.assertEqual(registry.make("c"), 1)
        registry.discard(1)
        registry.undo()
        self.assertEqual(registry.objects(), [(0, "a"), (1, "c")])
        self.assertEqual(registry.make("c"), 2)

    def test_move(self):
        registry = sample()
        self.assertIs(registry.move(0, "d"), None)
        self.assertEqual(registry.objects(), [(0, "d")])
        before = registry.deeds
        self.assertIs(registry.move(0, "d"), None)
        self.assertEqual(registry.deeds, before + 1)
        registry.undo()
        self.assertEqual(registry.undo(), [])
        self.assertEqual(registry.objects(), [(0, "a")])

    def test_discard(self):
        registry = sample()
        self.assertIs(registry.discard(0), None)
        self.assertEqual(registry.objects(), [])
        refused(self, registry, NoObject, {"number": 0}, registry.discard, 0)
        self.assertEqual(registry.undo(), [])
        self.assertEqual(registry.objects(), [(0, "a")])

    def test_busy(self):
        registry = sample()
        registry.make("a")
        registry.begin(0, "f")
        registry.begin(0, "g")
        refused(self, registry, Busy, {"number": 0}, registry.discard, 0)
        registry.discard(1)
        registry.stop(0)
        refused(self, registry, Busy, {"number": 0}, registry.discard, 0)
        list(registry.steps(1))
        self.assertIs(registry.discard(0), None)

    def test_at_most_twelve_objects(self):
        registry = sample()
        for _ in range(11):
            registry.make("a")
        refused(self, registry, NoKind, {"name": "z"}, registry.make, "z")
        refused(self, registry, TooMany, {}, registry.make, "a")
        registry.discard(3)
        self.assertEqual(registry.make("b"), 12)
        self.assertEqual([number for number, _ in registry.objects()], [0, 1, 2, 4, 5, 6, 7, 8, 9, 10, 11, 12])

    def test_the_order_of_errors(self):
        registry = sample()
        refused(self, registry, NoObject, {"number": 1}, registry.move, 1, "z")
        refused(self, registry, NoKind, {"name": "z"}, registry.move, 0, "z")

    def test_any_value(self):
        registry = sample()
        registry.begin(0, "f")
        for thing in ANY_VALUES:
            if thing not in ("a", "b"):
                refused(self, registry, NoKind, {"name": thing}, registry.make, thing)
                refused(self, registry, NoKind, {"name": thing}, registry.move, 0, thing)
                refused(self, registry, NoKind, {"name": thing}, registry.difference, 0, thing)
            if not Registry.is_name(thing):
                refused(self, registry, NoCall, {"call": thing}, registry.begin, 0, thing)
        for thing in numbers_that_are_none():
            for word, more in (("move", (thing,)), ("discard", ()), ("begin", (thing,))):
                refused(self, registry, NoObject, {"number": thing}, getattr(registry, word), thing, *more)
            for word, more in (("step", ()), ("stop", ()), ("stack", ()), ("rest", ()), ("difference", (thing,))):
                refused(self, registry, NoOpen, {"number": thing}, getattr(registry, word), thing, *more)
            with self.assertRaises(NoOpen) as caught:
                next(registry.steps(thing))
            self.assertIs(caught.exception.number, thing)

    def test_true_is_not_one(self):
        registry = sample()
        registry.make("a")
        registry.begin(0, "f")
        registry.begin(1, "f")
        for thing in (True, False):
            for word, more in (("move", ("a",)), ("discard", ()), ("begin", ("f",))):
                refused(self, registry, NoObject, {"number": thing}, getattr(registry, word), thing, *more)
            for word in ("step", "stop", "stack", "rest"):
                refused(self, registry, NoOpen, {"number": thing}, getattr(registry, word), thing)

    def test_keywords(self):
        registry = sample()
        self.assertEqual(registry.make(kind="b"), 1)
        registry.move(kind="c", number=1)
        self.assertEqual(registry.objects(), [(0, "a"), (1, "c")])
        self.assertEqual(registry.begin(call="f", number=0), 0)
        self.assertEqual(registry.step(number=0), ("enter", "b", "f"))
        self.assertEqual(next(registry.steps(number=0)), ("say", "b", "one"))
        self.assertEqual(registry.stack(number=0), [("b", "f", 1)])
        self.assertEqual(registry.difference(kind="a", number=0), None)
        self.assertEqual(registry.rest(number=0)[-1], ("say", "b", "two"))
        registry.stop(number=0)
        registry.discard(number=1)
        self.assertEqual((registry.objects(), registry.opened()), ([(0, "a")], []))


class OpenCallTest(unittest.TestCase):
    def test_all_steps(self):
        registry = sample()
        self.assertEqual(registry.begin(0, "f"), 0)
        self.assertEqual((registry.opened(), registry.stack(0)), ([(0, 0, "f")], []))
        steps = [
            (("enter", "b", "f"), [("b", "f", 0)]), (("say", "b", "one"), [("b", "f", 1)]),
            (("enter", "c", "f"), [("b", "f", 2), ("c", "f", 0)]), (("lost", "c", "f"), [("b", "f", 2), ("c", "f", 1)]),
            (("say", "c", "three"), [("b", "f", 2), ("c", "f", 2)]), (("leave", "c", "f"), [("b", "f", 2)]),
            (("enter", "d", "g"), [("b", "f", 3), ("d", "g", 0)]),
            (("say", "d", "four"), [("b", "f", 3), ("d", "g", 1)]),
            (("leave", "d", "g"), [("b", "f", 3)]), (("say", "b", "two"), [("b", "f", 4)]),
        ]
        for event, stack in steps:
            self.assertEqual(registry.step(0), event)
            self.assertEqual(registry.stack(0), stack)
        self.assertEqual(registry.step(0), ("leave", "b", "f"))
        self.assertEqual(registry.opened(), [])
        refused(self, registry, NoOpen, {"number": 0}, registry.step, 0)

    def test_no_first_body(self):
        registry = sample()
        registry.begin(0, "h")
        self.assertEqual(registry.step(0), ("lost", None, "h"))
        self.assertEqual(registry.opened(), [])
        registry.undo()
        self.assertEqual((registry.opened(), registry.stack(0)), ([(0, 0, "h")], []))

    def test_an_empty_body(self):
        registry = sample()
        registry.set_body("a", "f", ())
        registry.begin(0, "f")
        self.assertEqual(list(registry.steps(0)), [("enter", "a", "f"), ("leave", "a", "f")])

    def test_the_first_body_is_looked_up_at_the_first_step(self):
        registry = sample()
        registry.begin(0, "f")
        registry.set_body("a", "f", ())
        self.assertEqual(registry.step(0), ("enter", "a", "f"))

    def test_rows_that_were_entered_are_kept(self):
        registry = sample()
        registry.begin(0, "f")
        registry.step(0)
        registry.set_body("b", "f", ())
        self.assertEqual(registry.step(0), ("say", "b", "one"))
        registry.clear_body("b", "f")
        self.assertEqual([registry.step(0) for _ in range(4)],
                         [("enter", "c", "f"), ("lost", "c", "f"), ("say", "c", "three"), ("leave", "c", "f")])
        registry.move(0, "d")
        registry.drop("a")
        registry.drop("b")
        self.assertEqual(registry.stack(0), [("b", "f", 2)])
        self.assertEqual([registry.step(0) for _ in range(5)],
                         [("enter", "d", "g"), ("say", "d", "four"), ("leave", "d", "g"), ("say", "b", "two"),
                          ("leave", "b", "f")])

    def test_the_line_of_this_moment_counts(self):
        registry = sample()
        registry.begin(0, "f")
        registry.step(0)
        registry.step(0)
        registry.rebase("a", ("c", "b"))
        self.assertEqual(registry.step(0), ("lost", "b", "f"))
        registry.undo()
        registry.undo()
        registry.move(0, "b")
        self.assertEqual(registry.step(0), ("lost", "b", "f"))
        registry.undo()
        registry.undo()
        self.assertEqual(registry.step(0), ("enter", "c", "f"))

    def test_the_definer_is_not_in_the_line(self):
        registry = sample()
        registry.set_body("d", "f", ())
        registry.begin(0, "f")
        registry.step(0)
        registry.step(0)
        registry.move(0, "c")
        self.assertEqual(registry.step(0), ("lost", "b", "f"))
        self.assertEqual(registry.step(0), ("enter", "d", "g"))

    def test_a_call_that_is_not_found(self):
        registry = sample()
        registry.clear_body("d", "g")
        registry.begin(0, "f")
        self.assertIn(("lost", "b", "g"), list(registry.steps(0)))

    def test_a_definer_that_is_added_again(self):
        registry = Registry.built((("x", ()), ("y", ()), ("a", ("x",))))
        registry.set_body("a", "f", NEXT * 2)
        registry.set_body("y", "f", ())
        registry.make("a")
        registry.begin(0, "f")
        registry.step(0)
        registry.move(0, "x")
        registry.drop("a")
        self.assertEqual(registry.step(0), ("lost", "a", "f"))
        registry.add("a", ("y",))
        registry.move(0, "a")
        self.assertEqual(registry.step(0), ("enter", "y", "f"))

    def test_numbers_are_given_in_order(self):
        registry = sample()
        self.assertEqual([registry.begin(0, "f"), registry.begin(0, "g"), registry.begin(0, "f")], [0, 1, 2])
        registry.stop(1)
        self.assertEqual(registry.begin(0, "h"), 3)
        self.assertEqual(registry.opened(), [(0, 0, "f"), (2, 0, "f"), (3, 0, "h")])
        registry.undo()
        self.assertEqual(registry.begin(0, "g"), 3)

    def test_calls_on_one_object_do_not_meet(self):
        registry = sample()
        registry.begin(0, "f")
        registry.begin(0, "f")
        registry.step(0)
        registry.step(0)
        registry.step(1)
        self.assertEqual((registry.stack(0), registry.stack(1)), ([("b", "f", 1)], [("b", "f", 0)]))

    def test_at_most_eight_calls(self):
        registry = sample()
        for at in range(8):
            self.assertEqual(registry.begin(0, "f"), at)
        refused(self, registry, NoObject, {"number": 1}, registry.begin, 1, "F")
        refused(self, registry, NoCall, {"call": "F"}, registry.begin, 0, "F")
        refused(self, registry, TooMany, {}, registry.begin, 0, "f")
        registry.stop(3)
        self.assertEqual(registry.begin(0, "f"), 8)

    def test_stop(self):
        registry = sample()
        registry.begin(0, "f")
        registry.step(0)
        self.assertIs(registry.stop(0), None)
        self.assertEqual(registry.opened(), [])
        for word in ("step", "stop", "stack", "rest"):
            refused(self, registry, NoOpen, {"number": 0}, getattr(registry, word), 0)
        registry.undo()
        self.assertEqual((registry.opened(), registry.stack(0)), ([(0, 0, "f")], [("b", "f", 0)]))

    def test_each_deed_is_taken_back(self):
        registry = sample()
        states = []
        deeds = [("make", ("b",)), ("begin", (0, "f")), ("begin", (1, "f")), ("step", (0,)), ("step", (1,)),
                 ("step", (0,)), ("move", (0, "b")), ("set_body", ("d", "f", NEXT)), ("step", (0,)),
                 ("step", (0,)), ("stop", (1,)), ("move", (1, "a")), ("discard", (1,)), ("begin", (0, "h")),
                 ("step", (2,)), ("step", (0,)), ("step", (0,)), ("step", (0,))]
        for word, arguments in deeds:
            states.append((kept(registry), registry.deeds))
            getattr(registry, word)(*arguments)
        while states:
            self.assertEqual(registry.undo(), [])
            before = states.pop()
            self.assertEqual((kept(registry), registry.deeds), before)

    def test_undo_down_to_the_empty_registry(self):
        registry = sample()
        registry.begin(0, "f")
        list(registry.steps(0))
        while registry.deeds:
            registry.undo()
        self.assertEqual((registry, registry.opened(), registry.objects()), (Registry(), [], []))
        refused(self, registry, Nothing, {}, registry.undo)
        registry.add("a")
        self.assertEqual((registry.make("a"), registry.begin(0, "f")), (0, 0))

    def test_forty_open_bodies(self):
        registry = deepened(two_lines(), 39)
        self.assertEqual(registry.step(0)[0], "enter")
        self.assertEqual(len(registry.stack(0)), 40)
        registry = deepened(two_lines(), 40)
        refused(self, registry, TooDeep, {"number": 0}, registry.step, 0)
        self.assertEqual(registry.stack(0)[-1], ("b", "f", 0))
        # It may still lose a call or leave a body.
        registry.move(0, "p")
        self.assertEqual(registry.step(0), ("lost", "b", "f"))
        self.assertEqual(registry.step(0), ("leave", "b", "f"))
        self.assertEqual(len(registry.stack(0)), 39)

    def test_too_deep_by_a_call(self):
        registry = two_lines()
        registry.set_body("a", "f", (("next",), ("call", "g")))
        registry.set_body("b", "f", (("next",), ("call", "g")))
        registry.set_body("a", "g", ())
        deepened(registry, 40)
        registry.move(0, "p")
        self.assertEqual(registry.step(0), ("lost", "b", "f"))
        refused(self, registry, TooDeep, {"number": 0}, registry.step, 0)
        registry.clear_body("a", "g")
        self.assertEqual(registry.step(0), ("lost", "b", "g"))


class StepsTest(unittest.TestCase):
    def test_all_events(self):
        registry = sample()
        registry.begin(0, "f")
        registry.step(0)
        events = list(registry.steps(0))
        self.assertEqual(len(events), 10)
        self.assertEqual((events[0], events[-1]), (("say", "b", "one"), ("leave", "b", "f")))
        self.assertEqual(registry.opened(), [])

    def test_each_step_is_a_deed(self):
        registry = sample()
        registry.begin(0, "f")
        before = registry.deeds
        self.assertEqual(registry.deeds + len(list(registry.steps(0))), registry.deeds)
        self.assertEqual(registry.deeds, before + 11)

    def test_each_step_is_done_when_it_is_asked_for(self):
        registry = sample()
        registry.begin(0, "f")
        asked = registry.steps(0)
        self.assertIs(iter(asked), asked)
        self.assertEqual(registry.stack(0), [])
        self.assertEqual(next(asked), ("enter", "b", "f"))
        self.assertEqual(registry.stack(0), [("b", "f", 0)])
        self.assertEqual(registry.step(0), ("say", "b", "one"))
        registry.clear_body("c", "f")
        self.assertEqual(next(asked), ("lost", "b", "f"))
        registry.stop(0)
        self.assertEqual(list(asked), [])

    def test_no_open_when_the_first_is_asked_for(self):
        registry = sample()
        asked = registry.steps(0)
        registry.begin(0, "f")
        self.assertEqual(next(asked), ("enter", "b", "f"))
        late = registry.steps(0)
        registry.stop(0)
        with self.assertRaises(NoOpen) as caught:
            next(late)
        self.assertEqual(caught.exception.number, 0)

    def test_the_call_is_begun_again(self):
        registry = sample()
        registry.begin(0, "f")
        asked = registry.steps(0)
        next(asked)
        registry.undo()
        registry.undo()
        registry.begin(0, "g")
        self.assertEqual(next(asked), ("enter", "d", "g"))

    def test_too_deep(self):
        registry = deepened(two_lines(), 40)
        with self.assertRaises(TooDeep) as caught:
            next(registry.steps(0))
        self.assertEqual(caught.exception.number, 0)
        self.assertEqual(len(registry.stack(0)), 40)


class RestTest(unittest.TestCase):
    def test_the_rest_of_a_call_that_was_just_begun(self):
        registry = sample()
        for at, call in enumerate(("f", "g", "h")):
            self.assertEqual(registry.begin(0, call), at)
            self.assertEqual(registry.rest(at), registry.run("a", call))

    def test_the_rest_after_each_step(self):
        registry = sample()
        registry.begin(0, "f")
        events = []
        while registry.opened():
            rest = registry.rest(0)
            self.assertEqual([event for event in events if event[0] in ("say", "lost")] + rest, registry.run("a", "f"))
            events.append(registry.step(0))
        refused(self, registry, NoOpen, {"number": 0}, registry.rest, 0)

    def test_the_rest_changes_nothing(self):
        registry = sample()
        registry.begin(0, "f")
        registry.step(0)
        before = (registry.deeds, registry.stack(0), registry.cached())
        registry.rest(0)
        registry.difference(0, "d")
        self.assertEqual((registry.deeds, registry.stack(0), registry.cached()), before)
        self.assertEqual(registry.objects(), [(0, "a")])

    def test_too_long(self):
        for last, steps in ((3, 0), (4, 1), (5, 1)):
            registry = of_many_bodies(last)
            registry.make("a")
            registry.begin(0, "f")
            for _ in range(steps):
                registry.step(0)
            if last < 5:
                self.assertEqual(registry.rest(0), [])
                self.assertIs(registry.difference(0, "a"), None)
            else:
                refused(self, registry, TooLong, {}, registry.rest, 0)
                refused(self, registry, TooLong, {}, registry.difference, 0, "a")
                refused(self, registry, TooLong, {}, registry.difference, 0, "b")

    def test_only_the_other_rest_is_too_long(self):
        registry = of_many_bodies(4)
        registry.make("b")
        registry.begin(0, "f")
        self.assertEqual(registry.rest(0), [("lost", None, "f")])
        refused(self, registry, NoOpen, {"number": 1}, registry.difference, 1, "z")
        refused(self, registry, NoKind, {"name": "z"}, registry.difference, 0, "z")
        refused(self, registry, TooLong, {}, registry.difference, 0, "a")
        self.assertIs(registry.difference(0, "b"), None)

    def test_the_rest_is_not_too_deep(self):
        registry = deepened(two_lines(), 40)
        registry.set_body("a", "f", (("say", "end"), ("next",)))
        self.assertEqual(registry.stack(0)[-1][0], "b")
        self.assertEqual(registry.rest(0), [("say", "a", "end"), ("lost", "a", "f")])
        self.assertEqual(registry.difference(0, "p"), 0)

    def test_difference(self):
        registry = sample()
        registry.begin(0, "f")
        self.assertEqual(registry.rest(0), [("say", "b", "one"), ("lost", "c", "f"), ("say", "c", "three"),
                                            ("say", "d", "four"), ("say", "b", "two")])
        self.assertIs(registry.difference(0, "a"), None)
        self.assertEqual([registry.difference(0, kind) for kind in "bcd"], [1, 0, 0])
        registry.step(0)
        self.assertEqual([registry.difference(0, kind) for kind in "bcd"], [1, 1, 1])

    def test_difference_in_length(self):
        registry = Registry.built((("d", ()), ("a", ("d",)), ("b", ())))
        registry.set_body("a", "f", (("say", "x"), ("call", "g")))
        registry.set_body("d", "g", (("say", "y"),))
        registry.set_body("b", "g", ())
        registry.make("a")
        registry.begin(0, "f")
        registry.step(0)
        self.assertEqual(registry.rest(0), [("say", "a", "x"), ("say", "d", "y")])
        self.assertEqual(registry.difference(0, "b"), 1)
        registry.move(0, "b")
        self.assertEqual(registry.rest(0), [("say", "a", "x")])
        self.assertEqual(registry.difference(0, "a"), 1)
        self.assertEqual(registry.difference(0, "d"), 1)
        self.assertIs(registry.difference(0, "b"), None)

    def test_equal_rests_in_other_kinds(self):
        registry = sample()
        registry.add("e", ("a",))
        registry.begin(0, "f")
        self.assertIs(registry.difference(0, "e"), None)

    def test_the_rest_is_what_the_steps_return(self):
        registry = sample()
        registry.begin(0, "f")
        registry.step(0)
        rest = registry.rest(0)
        self.assertEqual([event for event in registry.steps(0) if event[0] in ("say", "lost")], rest)

    def test_errors_by_told(self):
        registry = sample()
        self.assertEqual(told(registry.rest, 0), ("NoOpen", {"number": 0}))


if __name__ == "__main__":
    unittest.main()

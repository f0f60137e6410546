"""Points 16 and 17: next bodies in every future, and verdicts; what point 3 says of them."""

import itertools
import time
import unittest

from openlines.errors import NoBases, NoCall, NoKind, NoMerge
from openlines.futures import future_line, future_lists, shows, targets, verdict
from openlines.registry import Registry
from plain import next_in, plain_hindrances, plain_least_ring, plain_targets
from small import all_small, both, some_registries
from told import refused, told
from values import ANY_VALUES, replaced


def lists_of(registry, bases):
    return tuple([registry.line(base) for base in bases]) + (bases,)


def all_tuples(names, most):
    """All tuples of distinct names, with one name at least: shorter ones first, otherwise ascending."""
    return [picked for many in range(1, most + 1) for picked in itertools.permutations(sorted(names), many)]


def candidates(plain):
    """All papers that could be a verdict in a registry: and some more."""
    names = plain.kinds() + [None]
    papers = [("can", bases) for bases in [()] + all_tuples(plain.kinds(), len(plain.kinds()))]
    papers += [("no body",), ("behind",)] + [("between", name) for name in names]
    return papers + [("clash", p, q) for p in names for q in names]


class FutureListTest(unittest.TestCase):
    def check_registry(self, registry, plain):
        many = len(registry)
        futures = plain.all_futures()
        self.assertEqual(list(future_lists(registry, many)), futures)
        for most in range(many + 1):
            self.assertEqual(list(future_lists(registry, most)), [row for row in futures if len(row[0]) <= most])
        lines = dict(futures)
        for bases in all_tuples(registry.kinds(), many):
            if bases in lines:
                self.assertEqual(future_line(registry, bases), lines[bases])
            else:
                ring = plain_least_ring(lists_of(registry, bases))
                self.assertEqual(told(future_line, registry, bases), ("NoMerge", {"ring": ring}))

    def test_all_small_registries(self):
        for rows in all_small("bca"):
            self.check_registry(*both(rows, []))
        for rows in list(all_small("dbac"))[::5]:
            self.check_registry(*both(rows, []))

    def test_larger_registries(self):
        for registry, plain in some_registries(1, 20, 5):
            self.check_registry(registry, plain)

    def test_a_future_line_is_the_line_of_a_new_kind(self):
        for registry, plain in some_registries(2, 30, 4):
            for bases in all_tuples(registry.kinds(), 4):
                here = told(future_line, registry, bases)
                there = told(registry.add, "new", bases)
                if here[0] == "NoMerge":
                    self.assertEqual(there, ("NoLine", {"kind": "new", "ring": here[1]["ring"]}))
                else:
                    self.assertEqual(("returned", registry.line("new")[1:]), here)
                    self.assertEqual(told(future_line, registry, ("new",)), ("returned", ("new",) + here[1]))
                    registry.undo()

    def test_the_list_of_one_kind_stands_for_the_kind(self):
        for registry, _ in some_registries(3, 20, 6):
            for kind in registry.kinds():
                self.assertEqual(future_line(registry, (kind,)), registry.line(kind))

    def test_the_empty_registry(self):
        self.assertEqual(list(future_lists(Registry(), 10)), [])
        self.assertEqual(list(future_lists(Registry(), 0)), [])

    def test_no_list_without_kinds(self):
        registry = Registry.built((("a", ()),))
        self.assertEqual(list(future_lists(registry, 0)), [])
        self.assertEqual(list(future_lists(registry, 1)), [(("a",), ("a",))])
        self.assertEqual(list(future_lists(registry, 10)), [(("a",), ("a",))])

    def test_ten_kinds(self):
        names = "abcdefghij"
        registry = Registry.built([(name, ()) for name in names])
        self.assertEqual([bases for bases, _ in future_lists(registry, 3)], all_tuples(names, 3))
        self.assertEqual(future_line(registry, tuple(names[::-1])), tuple(names[::-1]))
        first = []
        for bases, line in future_lists(registry, 10):
            first.append(bases)
            if len(first) == 1000:
                break
        self.assertEqual(first, all_tuples(names, 4)[:1000])

    def test_one_tower_of_ten_kinds(self):
        names = "abcdefghij"
        registry = Registry.built([(name, tuple(names[:at][-1:])) for at, name in enumerate(names)])
        found = list(future_lists(registry, 10))
        self.assertEqual(len(found), 2 ** 10 - 1)
        self.assertEqual(found[-1], (tuple(names[::-1]), tuple(names[::-1])))
        self.assertEqual(found[10], (("b", "a"), ("b", "a")))

    def test_each_item_is_a_tuple(self):
        registry = Registry.built((("a", ()), ("b", ())))
        self.assertEqual(repr(list(future_lists(registry, 2))), repr([
            (("a",), ("a",)), (("b",), ("b",)), (("a", "b"), ("a", "b")), (("b", "a"), ("b", "a"))]))

    def test_it_is_asked_item_by_item(self):
        registry = Registry.built([(name, ()) for name in "abcdefghij"])
        asked = future_lists(registry, 10)
        self.assertEqual(next(asked), (("a",), ("a",)))
        self.assertEqual(next(asked), (("b",), ("b",)))
        self.assertEqual(next(future_lists(registry, 10)), (("a",), ("a",)))
        self.assertEqual(next(asked), (("c",), ("c",)))

    def test_keywords(self):
        registry = Registry.built((("a", ()),))
        self.assertEqual(future_line(registry=registry, bases=("a",)), ("a",))
        self.assertEqual(list(future_lists(registry=registry, most=1)), [(("a",), ("a",))])
        self.assertEqual(list(future_lists(registry, most=1)), [(("a",), ("a",))])

    def test_wrong_bases(self):
        names = "abcdefghij"
        registry = Registry.built([(name, ()) for name in names])
        rows = [((), -1), ([], -1), (["a"], -1), ("a", -1), (None, -1), (tuple(names) + ("a",), -1),
                (("a", "a"), 1), (("z",), 0), (("a", "b", "a", "z"), 2), (("a", "z", "a"), 1), (tuple("abcdefghia"), 9),
                (("a", None), 1), (("a", ["b"]), 1), ((("a",),), 0)]
        for bases, at in rows:
            refused(self, registry, NoBases, {"at": at}, future_line, registry, bases)

    def test_any_value_as_bases(self):
        registry = Registry.built((("a", ()), ("b", ())))
        for thing in list(ANY_VALUES) + list(replaced(("a", "b"))):
            if thing in (("a",), ("b",), ("a", "b"), ("b", "a")):
                self.assertEqual(future_line(registry, thing), thing)
            else:
                at = -1
                if type(thing) is tuple and 0 < len(thing) < 11:
                    at = [k for k in range(len(thing)) if thing[k] not in ("a", "b") or thing[k] in thing[:k]][0]
                self.assertEqual(told(future_line, registry, thing), ("NoBases", {"at": at}))

    def test_no_merge(self):
        registry = Registry.built((("a", ()), ("b", ("a",)), ("c", ())))
        ring = (("a", "b", 2), ("b", "a", 1))
        refused(self, registry, NoMerge, {"ring": ring}, future_line, registry, ("a", "b"))
        ring = (("a", "b", 3), ("b", "a", 2))
        refused(self, registry, NoMerge, {"ring": ring}, future_line, registry, ("a", "c", "b"))


class TargetTest(unittest.TestCase):
    def check_registry(self, registry, plain):
        futures = plain.all_futures()
        for kind in registry.kinds():
            wanted = plain_targets(plain, futures, kind, "f")
            self.assertEqual(targets(registry, kind, "f"), wanted)
            self.assertLessEqual(max([len(bases) for _, bases in wanted]), 3)
            least = dict(wanted)
            for target in registry.kinds() + [None]:
                papers = plain_hindrances(plain, kind, "f", target)
                self.assertEqual(papers == [], target in least)
                first = papers[0] if papers else ("can", least[target])
                self.assertEqual(verdict(registry, kind, "f", target), first)

    def check_shows(self, registry, plain):
        futures = dict(plain.all_futures())
        papers = candidates(plain)
        for kind in registry.kinds():
            for target in registry.kinds() + [None]:
                hindrances = plain_hindrances(plain, kind, "f", target)
                for paper in papers:
                    holds = paper in hindrances
                    if paper[0] == "can":
                        line = futures.get(paper[1], ())
                        holds = kind in line and next_in(plain, line, kind, "f") == target
                    self.assertIs(shows(registry, kind, "f", target, paper), holds)

    def test_all_small_registries(self):
        for names in ("bca", "cab", "bac"):
            for rows in all_small(names):
                for many in range(4):
                    for definers in itertools.combinations(names, many):
                        self.check_registry(*both(rows, [(kind, "f") for kind in definers]))

    def test_all_papers_in_small_registries(self):
        for rows in all_small("bca"):
            for many in range(4):
                for definers in itertools.combinations("abc", many):
                    self.check_shows(*both(rows, [(kind, "f") for kind in definers]))

    def test_larger_registries(self):
        for registry, plain in some_registries(4, 60, 4):
            self.check_registry(registry, plain)
            self.check_shows(registry, plain)
        for registry, plain in some_registries(5, 40, 5):
            self.check_registry(registry, plain)
        for registry, plain in some_registries(6, 6, 6):
            self.check_registry(registry, plain)

    def test_other_calls_do_not_matter(self):
        for registry, plain in some_registries(7, 20, 4, ("f", "g", "h"), 4):
            self.check_registry(registry, plain)

    def test_ten_kinds_with_lists_of_three(self):
        for registry, plain in some_registries(8, 10, 10):
            futures = list(future_lists(registry, 3))
            for kind in registry.kinds():
                wanted = plain_targets(plain, futures, kind, "f")
                self.assertEqual(targets(registry, kind, "f"), wanted)
                for target in registry.kinds() + [None]:
                    paper = verdict(registry, kind, "f", target)
                    self.assertEqual(paper[1] if paper[0] == "can" else None, dict(wanted).get(target))
                    self.assertIs(shows(registry, kind, "f", target, paper), True)

    def test_a_kind_between_that_is_pushed_back(self):
        registry, _ = both([("d", ()), ("a", ("d",)), ("x", ())], [("a", "f"), ("d", "f"), ("x", "f")])
        self.assertEqual(targets(registry, "a", "f"), [("d", ("a",)), ("x", ("a", "x", "d"))])
        self.assertEqual(verdict(registry, "a", "f", "x"), ("can", ("a", "x", "d")))
        self.assertEqual(verdict(registry, "a", "f", None), ("between", "d"))
        self.assertEqual(verdict(registry, "d", "f", None), ("can", ("a",)))

    def test_papers(self):
        rows = [("c", ()), ("d", ()), ("a", ("c", "d")), ("b", ("d", "c")), ("e", ())]
        registry, _ = both(rows, [("a", "f"), ("b", "f"), ("c", "f"), ("d", "f")])
        self.assertEqual(verdict(registry, "a", "f", "b"), ("clash", "c", "d"))
        self.assertEqual(verdict(registry, "b", "f", "a"), ("clash", "d", "c"))
        self.assertEqual(verdict(registry, "a", "f", "e"), ("no body",))
        self.assertEqual(verdict(registry, "c", "f", "a"), ("behind",))
        self.assertEqual(verdict(registry, "a", "f", "a"), ("behind",))
        self.assertEqual(verdict(registry, "e", "f", "e"), ("no body",))
        self.assertEqual(verdict(registry, "a", "f", "d"), ("between", "c"))
        self.assertEqual(verdict(registry, "a", "f", None), ("between", "c"))
        self.assertEqual(verdict(registry, "e", "f", None), ("can", ("e",)))
        self.assertEqual(verdict(registry, "e", "f", "b"), ("can", ("e", "b")))
        self.assertIs(shows(registry, "a", "f", None, ("between", "d")), True)
        self.assertIs(shows(registry, "a", "f", "d", ("between", "d")), False)
        for bases, holds in ((("e", "b"), True), (("e", "b", "c"), True), (("b", "e"), False), (("b",), False),
                             (("e",), False), (("e", "c", "b"), False), (("e", "d", "b"), False), ((), False)):
            self.assertIs(shows(registry, "e", "f", "b", ("can", bases)), holds)

    def test_the_least_clash(self):
        rows = [("x", ()), ("y", ()), ("z", ()), ("a", ("z", "y", "x")), ("b", ("x", "y", "z")), ("c", ("y", "z", "x"))]
        registry, plain = both(rows, [("a", "f"), ("b", "f"), ("c", "f")])
        self.assertEqual(verdict(registry, "a", "f", "b"), ("clash", "y", "x"))
        self.assertEqual(verdict(registry, "b", "f", "a"), ("clash", "x", "y"))
        self.assertEqual(verdict(registry, "b", "f", "c"), ("clash", "x", "y"))
        self.assertEqual(verdict(registry, "c", "f", "b"), ("clash", "y", "x"))
        for p, q, holds in (("y", "x", True), ("z", "x", True), ("z", "y", True), ("x", "y", False), ("a", "x", False)):
            self.assertIs(shows(registry, "a", "f", "b", ("clash", p, q)), holds)
        self.check_registry(registry, plain)

    def test_a_call_without_bodies(self):
        registry, _ = both([("a", ()), ("b", ())], [])
        self.assertEqual(targets(registry, "a", "f"), [(None, ("a",))])
        self.assertEqual(verdict(registry, "a", "f", "b"), ("no body",))

    def test_the_kind_needs_no_body(self):
        registry, _ = both([("a", ()), ("b", ("a",))], [("a", "f")])
        self.assertEqual(targets(registry, "b", "f"), [("a", ("b",))])
        self.assertEqual(targets(registry, "a", "f"), [(None, ("a",))])

    def test_errors_of_targets(self):
        registry, _ = both([("a", ())], [("a", "f")])
        for thing in ANY_VALUES:
            if thing != "a":
                refused(self, registry, NoKind, {"name": thing}, targets, registry, thing, "F")
            if told(registry.is_name, thing) == ("returned", True):
                self.assertEqual(targets(registry, "a", thing), [(None, ("a",))])
            else:
                refused(self, registry, NoCall, {"call": thing}, targets, registry, "a", thing)

    def test_errors_of_verdict_and_shows(self):
        registry, _ = both([("a", ())], [("a", "f")])
        for function, more in ((verdict, ()), (shows, (("behind",),))):
            for thing in ANY_VALUES:
                if thing != "a":
                    refused(self, registry, NoKind, {"name": thing}, function, registry, thing, thing, thing, *more)
                    if thing is not None:
                        refused(self, registry, NoKind, {"name": thing}, function, registry, "a", "f", thing, *more)
                if not registry.is_name(thing):
                    refused(self, registry, NoCall, {"call": thing}, function, registry, "a", thing, "z", *more)

    def test_shows_of_any_value(self):
        registry, plain = both([("d", ()), ("a", ("d",)), ("x", ())], [("a", "f"), ("d", "f"), ("x", "f")])
        futures = plain.all_futures()
        for target, paper in (("x", ("can", ("a", "x", "d"))), (None, ("between", "d")), ("a", ("behind",))):
            self.assertIs(shows(registry, "a", "f", target, paper), True)
            good = plain_hindrances(plain, "a", "f", target)
            good += [("can", bases) for bases, line in futures
                     if "a" in line and next_in(plain, line, "a", "f") == target]
            for thing in list(ANY_VALUES) + list(replaced(paper)):
                self.assertIs(shows(registry, "a", "f", target, thing), repr(thing) in [repr(row) for row in good])
        for paper in (("no body",), ("clash", "a", "d")):
            for thing in replaced(paper):
                self.assertIs(shows(registry, "d", "f", "x", thing), False)

    def test_papers_that_are_too_long(self):
        rows = [("c", ()), ("d", ()), ("a", ("c", "d")), ("b", ("d", "c")), ("e", ())]
        registry, _ = both(rows, [("a", "f"), ("b", "f"), ("c", "f"), ("d", "f")])
        for kind, target in (("a", "b"), ("a", "e"), ("a", "a"), ("a", "d"), ("a", None), ("e", "b"), ("e", None)):
            paper = verdict(registry, kind, "f", target)
            self.assertIs(shows(registry, kind, "f", target, paper), True)
            for more in ((None,), (None, None), paper[1:] + (0,), paper, paper + paper, (None,) * 5000):
                self.assertIs(shows(registry, kind, "f", target, paper + more), False)

    def test_nothing_is_cached_or_changed(self):
        registry, _ = both([("d", ()), ("a", ("d",)), ("x", ())], [("a", "f"), ("d", "f"), ("x", "f")])
        before = (registry.deeds, repr(registry))
        targets(registry, "a", "f")
        verdict(registry, "a", "f", "x")
        shows(registry, "a", "f", "x", ("can", ("a", "x", "d")))
        list(future_lists(registry, 3))
        future_line(registry, ("a",))
        self.assertEqual(registry.cached(), [])
        self.assertEqual((registry.deeds, repr(registry)), before)

    def test_the_returned_list_is_new(self):
        registry, _ = both([("a", ()), ("b", ())], [("a", "f"), ("b", "f")])
        targets(registry, "a", "f").clear()
        self.assertEqual(targets(registry, "a", "f"), [("b", ("a", "b")), (None, ("a",))])

    def test_later_edits_count(self):
        registry, _ = both([("a", ()), ("b", ())], [("a", "f")])
        self.assertEqual(targets(registry, "a", "f"), [(None, ("a",))])
        registry.set_body("b", "f", ())
        self.assertEqual(targets(registry, "a", "f"), [("b", ("a", "b")), (None, ("a",))])
        registry.rebase("a", ("b",))
        self.assertEqual(targets(registry, "a", "f"), [("b", ("a",))])
        registry.undo()
        registry.undo()
        self.assertEqual(targets(registry, "a", "f"), [(None, ("a",))])

    def test_keywords(self):
        registry, _ = both([("a", ())], [("a", "f")])
        self.assertEqual(targets(registry=registry, kind="a", call="f"), [(None, ("a",))])
        self.assertEqual(verdict(registry, "a", target=None, call="f"), ("can", ("a",)))
        self.assertIs(shows(registry=registry, kind="a", call="f", target=None, paper=("can", ("a",))), True)

    def test_answers_come_in_a_short_time(self):
        rows = [(name, tuple("abcde"[:at][-1:])) for at, name in enumerate("abcde")]
        rows += [(name, tuple("fghij"[:at][-1:])) for at, name in enumerate("fghij")]
        registry, _ = both(rows, [(kind, "f") for kind in "acefhj"])
        started = time.process_time()
        for kind in registry.kinds():
            targets(registry, kind, "f")
            for target in registry.kinds() + [None]:
                verdict(registry, kind, "f", target)
        self.assertLess(time.process_time() - started, 20)


if __name__ == "__main__":
    unittest.main()

"""Point 21: what is kept of base lists, orders, and what tells registries apart; what point 3 says of them."""

import itertools
import random
import time
import unittest

from openlines.errors import NoBases, NoRegistry
from openlines.futures import future_line
from openlines.lines import is_ring
from openlines.registry import Registry
from openlines.repairs import kept, ordered, shows_kept, telling
from plain import (
    plain_kept, plain_order, plain_parts, plain_rings, plain_demands, plain_telling, plainly_ring, plainly_shows_kept,
)
from small import all_small, both, some_registries, some_rows
from told import refused, told
from values import ANY_VALUES, replaced


def all_bases(names, least=1):
    """All tuples of distinct names, with so many names at least."""
    return [bases for many in range(least, len(names) + 1) for bases in itertools.permutations(names, many)]


def some_kept_papers(chance, plain, futures, bases):
    """Papers about what is kept, of which some hold, whoever wrote them."""
    papers = []
    for many in range(len(bases) + 1):
        for part in plain_parts(bases, many):
            rings = []
            for greater in plain_parts(bases, many + 1):
                demands = plain_demands(plain.lists(greater))
                found = [ring for few in (2, 3) for ring in itertools.islice(plain_rings(demands, few), 20)]
                rings.append((greater, chance.choice(found or [(), demands[:1], (("a", "b", 0), ("b", "a", 1))])))
            papers += [(part, tuple(rings)), (part, tuple(rings[:-1])), (part, ()), (part, tuple(rings[::-1]))]
            papers.append((part[::-1], tuple(rings)))
    return papers


class KeptTest(unittest.TestCase):
    def check_bases(self, registry, plain, futures, bases):
        """Check what is kept of a base list; return the number of rings."""
        paper = kept(registry, bases)
        part, rings = paper
        self.assertEqual(part, plain_kept(plain, futures, bases))
        self.assertEqual([greater for greater, _ in rings], plain_parts(bases, len(part) + 1))
        for greater, ring in rings:
            self.assertIs(plainly_ring(plain.lists(greater), ring), True)
        self.assertIs(shows_kept(registry, bases, paper), True)
        self.assertIs(plainly_shows_kept(plain, futures, bases, paper), True)
        if bases in futures:
            self.assertEqual(paper, (bases, ()))
        return len(rings)

    def check_papers(self, chance, registry, plain, futures, bases):
        """Check papers, whoever wrote them; return how many hold."""
        many = 0
        for paper in some_kept_papers(chance, plain, futures, bases):
            holds = plainly_shows_kept(plain, futures, bases, paper)
            self.assertIs(shows_kept(registry, bases, paper), holds, (bases, paper))
            if holds:
                many += 1
                self.assertEqual(len(paper[0]), len(kept(registry, bases)[0]))
        return many

    def test_all_small_registries(self):
        chance = random.Random(1)
        seen = {}
        for names in ("bca", "cab"):
            for rows in all_small(names):
                registry, plain = both(rows, [])
                futures = dict(plain.all_futures())
                for bases in all_bases(names):
                    seen[self.check_bases(registry, plain, futures, bases)] = True
                    self.assertGreater(self.check_papers(chance, registry, plain, futures, bases), 0)
        self.assertEqual(sorted(seen), [0, 1, 3])

    def test_larger_registries(self):
        chance = random.Random(2)
        seen = {}
        for registry, plain in some_registries(41, 20, 4):
            futures = dict(plain.all_futures())
            for bases in all_bases(registry.kinds()):
                seen[self.check_bases(registry, plain, futures, bases)] = True
        for registry, plain in some_registries(42, 10, 5):
            futures = dict(plain.all_futures())
            for bases in chance.sample(all_bases(registry.kinds(), 3), 40):
                seen[self.check_bases(registry, plain, futures, bases)] = True
                self.check_papers(chance, registry, plain, futures, bases)
        for many in (0, 1, 3, 4, 6, 10):
            self.assertIn(many, seen)

    def test_what_is_kept(self):
        registry = Registry.built((("a", ()), ("b", ("a",)), ("c", ("b",)), ("d", ())))
        self.assertEqual(kept(registry, ("d", "c", "b", "a")), (("d", "c", "b", "a"), ()))
        self.assertEqual(kept(registry, ("a", "d", "b"))[0], ("a", "d"))
        self.assertEqual([row[0] for row in kept(registry, ("a", "d", "b"))[1]], [("a", "d", "b")])
        paper = kept(registry, ("a", "b", "c"))
        self.assertEqual(paper[0], ("a",))
        self.assertEqual([row[0] for row in paper[1]], [("a", "b"), ("a", "c"), ("b", "c")])
        self.assertEqual(set(paper[1][0][1]), {("a", "b", 2), ("b", "a", 1)})
        # The rings are in the order of the parts, not in the order of the bases.
        paper = kept(registry, ("b", "c", "a"))
        self.assertEqual([row[0] for row in paper[1]], [("b", "c", "a")])
        self.assertEqual(paper[0], ("b", "a"))
        for part in (("b", "a"), ("c", "a")):
            self.assertIs(shows_kept(registry, ("b", "c", "a"), (part, paper[1])), True)
        for part in (("b", "c"), ("a", "b"), ("b",), (), ("c",), ("b", "c", "a"), ("d", "a"), ("b", "d")):
            self.assertIs(shows_kept(registry, ("b", "c", "a"), (part, paper[1])), False)

    def test_ten_kinds(self):
        names = tuple("abcdefghij")
        registry = Registry.built([(name, tuple(names[:at][-1:])) for at, name in enumerate(names)])
        started = time.process_time()
        self.assertEqual(kept(registry, names[::-1]), (names[::-1], ()))
        part, rings = kept(registry, names)
        self.assertEqual((part, len(rings)), (("a",), 45))
        mixed = ("b", "a", "d", "c", "f", "e", "h", "g", "j", "i")
        part, rings = kept(registry, mixed)
        self.assertEqual((part, len(rings)), (("b", "a"), 120))
        self.assertIs(shows_kept(registry, mixed, (part, rings)), True)
        self.assertIs(shows_kept(registry, mixed, (("j", "i"), rings)), True)
        self.assertEqual(ordered(registry, mixed), ("order", names[::-1]))
        self.assertLess(time.process_time() - started, 20)

    def test_wrong_bases(self):
        names = "abcdefghij"
        registry = Registry.built([(name, ()) for name in names])
        rows = [((), -1), ([], -1), (["a"], -1), ("a", -1), (None, -1), (tuple(names) + ("a",), -1),
                (("a", "a"), 1), (("z",), 0), (("a", "b", "a", "z"), 2), (("a", "z", "a"), 1), (tuple("abcdefghia"), 9),
                (("a", None), 1), (("a", ["b"]), 1), ((("a",),), 0)]
        for function, more in ((kept, ()), (shows_kept, (None,)), (ordered, ())):
            for bases, at in rows:
                refused(self, registry, NoBases, {"at": at}, function, registry, bases, *more)

    def test_any_value_as_bases(self):
        registry = Registry.built((("a", ()), ("b", ())))
        for function, more in ((kept, ()), (shows_kept, (None,)), (ordered, ())):
            for thing in list(ANY_VALUES) + list(replaced(("a", "b"))):
                if thing in (("a",), ("b",), ("a", "b"), ("b", "a")):
                    self.assertEqual(told(function, registry, thing, *more)[0], "returned")
                    continue
                at = -1
                if type(thing) is tuple and 0 < len(thing) < 11:
                    at = [k for k in range(len(thing)) if thing[k] not in ("a", "b") or thing[k] in thing[:k]][0]
                self.assertEqual(told(function, registry, thing, *more), ("NoBases", {"at": at}))

    def test_any_value_as_a_paper(self):
        registry, plain = both([("a", ()), ("b", ("a",)), ("c", ("b",)), ("d", ())], [])
        futures = dict(plain.all_futures())
        for bases in (("a", "b", "d"), ("a", "b"), ("b", "c", "a"), ("d", "c")):
            paper = kept(registry, bases)
            for thing in list(ANY_VALUES) + list(replaced(paper)):
                try:
                    holds = type(thing) is tuple and len(thing) == 2 and plainly_shows_kept(
                        plain, futures, bases, thing)
                except TypeError:
                    holds = False
                self.assertIs(shows_kept(registry, bases, thing), holds, thing)


class OrderedTest(unittest.TestCase):
    def check_bases(self, registry, plain, futures, bases):
        word, found = ordered(registry, bases)
        order = plain_order(futures, bases)
        self.assertEqual(word, "ring" if order is None else "order")
        if order is None:
            lists = tuple([plain.line(kind) for kind in bases])
            self.assertIs(plainly_ring(lists, found), True)
        else:
            self.assertEqual(found, order)
        return word

    def test_all_small_registries(self):
        for names in ("bca", "cab"):
            for rows in all_small(names):
                registry, plain = both(rows, [])
                futures = dict(plain.all_futures())
                for bases in all_bases(names):
                    self.check_bases(registry, plain, futures, bases)

    def test_larger_registries(self):
        words = []
        chance = random.Random(3)
        for registry, plain in some_registries(43, 20, 4):
            futures = dict(plain.all_futures())
            words += [self.check_bases(registry, plain, futures, bases) for bases in all_bases(registry.kinds())]
        for registry, plain in some_registries(44, 25, 6):
            futures = dict(plain.all_futures())
            for bases in chance.sample(all_bases(registry.kinds(), 3), 40):
                words.append(self.check_bases(registry, plain, futures, bases))
        self.assertGreater(words.count("ring"), 20)
        self.assertGreater(words.count("order"), 50)

    def test_orders_and_rings(self):
        registry = Registry.built((("y", ()), ("x", ()), ("c", ("y",)), ("a", ("x", "y")), ("b", ("y", "x"))))
        self.assertEqual(ordered(registry, ("y", "x")), ("order", ("x", "y")))
        self.assertEqual(ordered(registry, ("y", "c", "x", "a")), ("order", ("a", "c", "x", "y")))
        self.assertEqual(ordered(registry, ("x", "b", "c")), ("order", ("b", "c", "x")))
        word, ring = ordered(registry, ("c", "b", "a"))
        self.assertEqual(word, "ring")
        self.assertIs(is_ring((("c", "y"), ("b", "y", "x"), ("a", "x", "y")), ring), True)

    def test_a_road_through_other_kinds(self):
        # a has to stand behind d because of x and y, which are no kinds of the list.
        rows = [("a", ()), ("x", ()), ("y", ()), ("d", ("x",)), ("e", ("x", "y")), ("f", ("y", "a"))]
        registry = Registry.built(rows)
        self.assertEqual(ordered(registry, ("a", "f", "e", "d")), ("order", ("d", "e", "f", "a")))
        self.assertEqual(ordered(registry, ("a", "d")), ("order", ("a", "d")))
        self.assertEqual(future_line(registry, ("d", "e", "f", "a")), ("d", "e", "x", "f", "y", "a"))


class TellingTest(unittest.TestCase):
    def check_both(self, one, other, futures):
        found = plain_telling(*futures)
        self.assertEqual(telling(one, other), found)
        self.assertEqual(telling(other, one), found)
        return 0 if found is None else len(found)

    def futures_of(self, plain):
        return set([bases for bases, _ in plain.all_futures()])

    def test_all_pairs_of_small_registries(self):
        made = [both(rows, []) for names in ("abc", "cab", "bca", "ab", "ba", "a", "b", "") for rows in
                (all_small(names) if names else [[]])]
        futures = [self.futures_of(plain) for _, plain in made]
        seen = {}
        for one in range(len(made)):
            for other in range(len(made)):
                seen[self.check_both(made[one][0], made[other][0], (futures[one], futures[other]))] = True
        self.assertEqual(sorted(seen), [0, 1, 2, 3])

    def test_registries_of_the_same_kinds(self):
        chance = random.Random(4)
        seen = {}
        for many in (4, 5):
            rows = [[row for row in some_rows(chance, many)] for _ in range(60)]
            renamed = [self.renamed(chance, found) for found in rows]
            made = [both(found, []) for found in renamed]
            futures = [self.futures_of(plain) for _, plain in made]
            for _ in range(150):
                one, other = chance.randrange(60), chance.randrange(60)
                many = self.check_both(made[one][0], made[other][0], (futures[one], futures[other]))
                seen[many] = True
        # A telling tuple has at most three names.
        self.assertIn(2, seen)
        self.assertLessEqual(max(seen), 3)

    def renamed(self, chance, rows):
        """The same registry with the first letters as names."""
        names = dict(zip([name for name, _ in rows], chance.sample("abcde"[:len(rows)], len(rows))))
        return [(names[name], tuple([names[base] for base in bases])) for name, bases in rows]

    def test_a_triple(self):
        rows = [("a", ()), ("b", ()), ("c", ())]
        one, plain = both(rows + [("d", ("a", "b"))], [])
        other, another = both(rows + [("d", ("b", "a"))], [])
        futures = (self.futures_of(plain), self.futures_of(another))
        self.assertEqual(self.check_both(one, other, futures), 3)
        self.assertEqual(telling(one, other), ("d", "a", "b"))

    def test_other_bases_with_the_same_lines(self):
        one = Registry.built((("a", ()), ("b", ("a",)), ("c", ("b", "a"))))
        other = Registry.built((("a", ()), ("b", ("a",)), ("c", ("b",))))
        self.assertNotEqual(one, other)
        self.assertIs(telling(one, other), None)
        other.set_body("c", "f", ())
        other.make("a")
        self.assertIs(telling(one, other), None)
        self.assertIs(telling(one, one), None)

    def test_kinds_that_one_does_not_have(self):
        one = Registry.built((("c", ()), ("a", ("c",))))
        other = Registry.built((("d", ()), ("b", ()), ("a", ())))
        self.assertEqual(telling(one, other), ("b",))
        self.assertEqual(telling(Registry(), one), ("a",))
        self.assertIs(telling(Registry(), Registry()), None)

    def test_ten_kinds(self):
        names = "abcdefghij"
        rows = [(name, ()) for name in names[:9]]
        one = Registry.built(rows + [("j", ("h", "i"))])
        other = Registry.built(rows + [("j", ("i", "h"))])
        started = time.process_time()
        self.assertEqual(telling(one, other), ("j", "h", "i"))
        self.assertIs(telling(one, Registry.built(rows + [("j", ("h", "i"))])), None)
        self.assertLess(time.process_time() - started, 20)

    def test_what_is_no_registry(self):
        registry = Registry.built((("a", ()),))
        for thing in ANY_VALUES:
            if not isinstance(thing, Registry):
                refused(self, registry, NoRegistry, {}, telling, registry, thing)
                refused(self, registry, NoRegistry, {}, telling, thing, registry)
                refused(self, registry, NoRegistry, {}, telling, thing, thing)
        refused(self, registry, NoRegistry, {}, telling, registry, Registry)


class AskingTest(unittest.TestCase):
    def test_nothing_is_cached_or_changed(self):
        registry = Registry.built((("a", ()), ("b", ("a",))))
        before = (registry.deeds, repr(registry))
        shows_kept(registry, ("a", "b"), kept(registry, ("a", "b")))
        ordered(registry, ("a", "b"))
        telling(registry, Registry())
        self.assertEqual(registry.cached(), [])
        self.assertEqual((registry.deeds, repr(registry)), before)

    def test_keywords(self):
        registry = Registry.built((("a", ()), ("b", ("a",))))
        paper = kept(bases=("b", "a"), registry=registry)
        self.assertEqual(paper, (("b", "a"), ()))
        self.assertIs(shows_kept(paper=paper, bases=("b", "a"), registry=registry), True)
        self.assertEqual(ordered(bases=("a", "b"), registry=registry), ("order", ("b", "a")))
        self.assertEqual(telling(other=Registry(), one=registry), ("a",))

    def test_later_edits_count(self):
        registry = Registry.built((("a", ()), ("b", ())))
        self.assertEqual(ordered(registry, ("b", "a")), ("order", ("a", "b")))
        registry.rebase("b", ("a",))
        self.assertEqual(ordered(registry, ("b", "a")), ("order", ("b", "a")))
        self.assertEqual(kept(registry, ("a", "b"))[0], ("a",))
        registry.undo()
        self.assertEqual(kept(registry, ("a", "b")), (("a", "b"), ()))


if __name__ == "__main__":
    unittest.main()

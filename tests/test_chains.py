"""Points 18 and 19: chains; what point 3 says of them."""

import itertools
import random
import unittest

from openlines.chains import chain, shows_chain
from openlines.errors import NoCall, NoChain
from openlines.registry import Registry
from plain import plain_demands, plainly_possible, plainly_shows_chain
from small import all_small, both, some_registries
from told import refused, told
from values import ANY_VALUES, replaced


def chains_of(registry, plain):
    """All chains for the call f, shorter ones first."""
    return [kinds for many in range(2, len(registry) + 1) for kinds in itertools.permutations(registry.kinds(), many)
            if all([(kind, "f") in plain.rows_of for kind in kinds[1:]])]


def some_road(chance, demands, many):
    """Random demands, each one behind the one before if there is one."""
    road = ()
    while len(road) < many and demands:
        further = [demand for demand in demands if not road or demand[0] == road[-1][1]]
        road += (chance.choice(further or demands),)
    return road


def some_papers(chance, plain, kinds):
    """Random papers about a chain, of which some hold."""
    lists = tuple([plain.line(kind) for kind in kinds]) + (kinds,)
    demands = plain_demands(lists)
    names = plain.kinds()
    papers = [("can", tuple(chance.sample(names, chance.randrange(len(names) + 1)))) for _ in range(3)]
    for many in (0, 1, 1, 2, 2, 3, 4):
        one, other = some_road(chance, demands, many), some_road(chance, demands, chance.choice((1, 1, 2, 3)))
        joined = [demand for demand in demands if one and demand[0] == one[-1][1]]
        papers += [("ring", one), ("after", one), ("between", one, other)]
        papers += [("between", one, (demand,)) for demand in joined[:3]]
    return papers


class ChainTest(unittest.TestCase):
    def check_chain(self, registry, plain, futures, kinds):
        """Check the paper about a chain; return its word."""
        words = []
        for lost in (False, True):
            possible = [bases for bases, line in futures if plainly_possible(plain, line, "f", kinds, lost)]
            paper = chain(registry, "f", kinds, lost=lost)
            self.assertEqual(paper[0] == "can", possible != [])
            self.assertIs(shows_chain(registry, "f", kinds, paper, lost=lost), True)
            self.assertIs(plainly_shows_chain(plain, futures, "f", kinds, paper, lost), True)
            words.append(paper[0])
        self.assertEqual(chain(registry, "f", kinds)[0], words[0])
        return words

    def check_papers(self, chance, registry, plain, futures, kinds):
        for lost in (False, True):
            for paper in some_papers(chance, plain, kinds):
                holds = plainly_shows_chain(plain, futures, "f", kinds, paper, lost)
                self.assertIs(shows_chain(registry, "f", kinds, paper, lost=lost), holds, (kinds, paper, lost))
                if holds:
                    # What holds agrees with what is returned: never a future list and a hindrance.
                    self.assertEqual(paper[0] == "can", chain(registry, "f", kinds, lost=lost)[0] == "can")

    def check_registry(self, chance, registry, plain, many):
        """Check so many chains at most; return all words that were met."""
        futures = plain.all_futures()
        words = []
        found = chains_of(registry, plain)
        for kinds in chance.sample(found, min(many, len(found))):
            words += self.check_chain(registry, plain, futures, kinds)
            self.check_papers(chance, registry, plain, futures, kinds)
        return words

    def test_all_chains_of_small_registries(self):
        chance = random.Random(1)
        words = []
        for names in ("bca", "abc"):
            for rows in all_small(names):
                for many in range(1, 4):
                    for definers in itertools.combinations(names, many):
                        registry, plain = both(rows, [(kind, "f") for kind in definers])
                        words += self.check_registry(chance, registry, plain, 100)
        self.assertEqual(sorted(set(words)), ["after", "between", "can", "ring"])

    def test_all_chains_of_registries_of_four_kinds(self):
        chance = random.Random(2)
        for rows in list(all_small("cadb"))[::7]:
            definers = chance.sample("abcd", chance.randrange(1, 5))
            registry, plain = both(rows, [(kind, "f") for kind in definers])
            self.check_registry(chance, registry, plain, 12)

    def test_chains_of_larger_registries(self):
        chance = random.Random(3)
        words = []
        for registry, plain in some_registries(4, 30, 5):
            words += self.check_registry(chance, registry, plain, 25)
        for registry, plain in some_registries(5, 5, 6):
            words += self.check_registry(chance, registry, plain, 25)
        for word in ("after", "between", "can", "ring"):
            self.assertGreater(words.count(word), 20)

    def test_roads_of_several_demands(self):
        rows = [("z", ()), ("y", ("z",)), ("x", ()), ("a", ("y",)), ("b", ("z", "x")), ("c", ("x",))]
        bodies = [(kind, "f") for kind in ("a", "y", "x", "c")]
        registry, plain = both(rows, bodies)
        paper = chain(registry, "f", ("a", "x"))
        self.assertEqual(paper[0], "can")
        registry.add("d", ("b", "c"))
        self.assertEqual(registry.line("d"), ("d", "b", "z", "c", "x"))
        registry.set_body("d", "f", ())
        paper = chain(registry, "f", ("a", "d", "x"))
        self.assertEqual(paper[0], "between")
        self.assertIs(shows_chain(registry, "f", ("a", "d", "x"), paper), True)
        # d's line has no y, a's has no x: only z, which is behind y and ahead of x, leads from y to x.
        road = (("a", "y", 0),)
        back = (("y", "z", 0), ("z", "x", 1))
        self.assertIs(shows_chain(registry, "f", ("a", "d", "x"), ("between", road, back)), True)
        for wrong in (("between", back, road), ("between", road, road), ("between", road, back[:1]),
                      ("between", road, back[1:]), ("between", (), back), ("between", road, ()),
                      ("between", road), ("between", road, back, ()), ("after", road), ("ring", road + back),
                      ("between", road + (("y", "z", 0),), (("z", "x", 1),))):
            self.assertIs(shows_chain(registry, "f", ("a", "d", "x"), wrong), False, wrong)

    def test_ends_lost(self):
        registry, _ = both([("c", ()), ("b", ("c",)), ("a", ())], [("a", "f"), ("b", "f"), ("c", "f")])
        self.assertEqual(chain(registry, "f", ("a", "b")), ("can", ("a", "b", "c")))
        paper = chain(registry, "f", ("a", "b"), lost=True)
        self.assertEqual(paper, ("after", (("b", "c", 1),)))
        self.assertIs(shows_chain(registry, "f", ("a", "b"), paper, lost=True), True)
        self.assertIs(shows_chain(registry, "f", ("a", "b"), paper, lost=False), False)
        self.assertIs(shows_chain(registry, "f", ("a", "b"), paper), False)
        self.assertIs(shows_chain(registry, "f", ("a", "b"), ("can", ("a", "b"))), True)
        self.assertIs(shows_chain(registry, "f", ("a", "b"), ("can", ("a", "b")), lost=True), False)
        self.assertEqual(chain(registry, "f", ("b", "c"), lost=True)[0], "can")
        self.assertIs(shows_chain(registry, "f", ("b", "c"), ("can", ("b",)), lost=True), True)
        self.assertIs(shows_chain(registry, "f", ("b", "c"), ("can", ("a", "b")), lost=True), True)
        self.assertIs(shows_chain(registry, "f", ("b", "c"), ("can", ("c",)), lost=True), False)
        self.assertEqual(chain(registry, "f", ("a", "c", "b"))[0], "ring")
        self.assertEqual(chain(registry, "f", ("a", "b", "c"), lost=True)[0], "can")

    def test_the_first_kind_needs_no_body(self):
        registry, _ = both([("a", ()), ("b", ())], [("b", "f")])
        self.assertEqual(chain(registry, "f", ("a", "b")), ("can", ("a", "b")))
        refused(self, registry, NoChain, {"at": 1}, chain, registry, "f", ("b", "a"))

    def test_ten_kinds(self):
        names = tuple("abcdefghij")
        registry, _ = both([(name, ()) for name in names], [(name, "f") for name in names[:6]])
        self.assertEqual(chain(registry, "f", names[:6], lost=True)[0], "can")
        self.assertEqual(chain(registry, "f", ("j",) + names[:6], lost=True)[0], "can")
        for kinds in ((), ("a",), ["a", "b"], "ab", None, names + ("k",), ("k",) * 11):
            refused(self, registry, NoChain, {"at": -1}, chain, registry, "f", kinds)
        refused(self, registry, NoChain, {"at": 6}, chain, registry, "f", names)
        refused(self, registry, NoChain, {"at": 6}, chain, registry, "f", names[:6] + ("a",))

    def test_the_order_of_errors(self):
        registry, _ = both([("a", ()), ("b", ()), ("c", ())], [("a", "f"), ("b", "f")])
        for function, more in ((chain, ()), (shows_chain, (None,))):
            refused(self, registry, NoCall, {"call": "F"}, function, registry, "F", None, *more)
            for kinds, at in ((("a", "z"), 1), (("z", "z"), 0), (("a", "a"), 1), (("a", "c"), 1), (("c", "b", "c"), 2),
                              (("a", "b", "a"), 2), (("a", "c", "z"), 1), (("a", "z", "c"), 1), ((None, "c"), 0),
                              (("a", ["b"]), 1)):
                refused(self, registry, NoChain, {"at": at}, function, registry, "f", kinds, *more)
            refused(self, registry, NoChain, {"at": 1}, function, registry, "g", ("a", "b"), *more)

    def test_any_value(self):
        registry, plain = both([("a", ()), ("b", ())], [("a", "f"), ("b", "f")])
        for function, more in ((chain, ()), (shows_chain, (None,))):
            for thing in ANY_VALUES:
                if not registry.is_name(thing):
                    refused(self, registry, NoCall, {"call": thing}, function, registry, thing, thing, *more)
            for thing in list(ANY_VALUES) + list(replaced(("a", "b"))):
                if thing in (("a", "b"), ("b", "a")):
                    self.assertEqual(told(function, registry, "f", thing, *more)[0], "returned")
                    continue
                at = -1
                if type(thing) is tuple and 1 < len(thing) < 11:
                    at = [k for k in range(len(thing)) if thing[k] not in ("a", "b") or thing[k] in thing[:k]][0]
                self.assertEqual(told(function, registry, "f", thing, *more), ("NoChain", {"at": at}))

    def test_any_value_as_a_paper(self):
        rows = [("y", ()), ("x", ("y",)), ("a", ("y",)), ("b", ("a",)), ("c", ("a", "x"))]
        registry, plain = both(rows, [(kind, "f") for kind in ("y", "a", "b")])
        futures = plain.all_futures()
        papers = [(("b", "y"), ("between", (("b", "a", 0),), (("a", "y", 0),)), False),
                  (("b", "a"), ("after", (("b", "a", 0), ("a", "y", 1))), True),
                  (("y", "a"), ("ring", (("y", "a", 2), ("a", "y", 1))), False),
                  (("b", "a"), ("can", ("b",)), False)]
        for kinds, paper, lost in papers:
            self.assertIs(shows_chain(registry, "f", kinds, paper, lost=lost), True, paper)
            for thing in list(ANY_VALUES) + list(replaced(paper)):
                holds = type(thing) is tuple and thing != () and plainly_shows_chain(
                    plain, futures, "f", kinds, thing, lost)
                self.assertIs(shows_chain(registry, "f", kinds, thing, lost=lost), holds, thing)

    def test_papers_that_are_too_long(self):
        rows = [("y", ()), ("a", ("y",)), ("b", ("a",))]
        registry, _ = both(rows, [(kind, "f") for kind in ("y", "a", "b")])
        for kinds, lost in ((("b", "a"), False), (("b", "a"), True), (("b", "y"), False), (("y", "a"), False)):
            paper = chain(registry, "f", kinds, lost=lost)
            self.assertIs(shows_chain(registry, "f", kinds, paper, lost=lost), True)
            for more in ((None,), (None, None), paper[1:], paper, paper + paper, (None,) * 5000):
                self.assertIs(shows_chain(registry, "f", kinds, paper + more, lost=lost), False)

    def test_long_roads_and_rings(self):
        rows = [("y", ()), ("a", ("y",)), ("b", ("a",))]
        registry, _ = both(rows, [(kind, "f") for kind in ("y", "a", "b")])
        ring = (("y", "a", 2), ("a", "y", 1)) * 2000
        self.assertIs(shows_chain(registry, "f", ("y", "a"), ("ring", ring)), True)
        self.assertIs(shows_chain(registry, "f", ("y", "a"), ("ring", ring[1:])), False)
        self.assertIs(shows_chain(registry, "f", ("y", "a"), ("after", ring), lost=True), False)

    def test_a_road_may_lead_round(self):
        rows = [("y", ()), ("a", ("y",)), ("b", ("a",))]
        registry, _ = both(rows, [(kind, "f") for kind in ("y", "a", "b")])
        ring = (("y", "a", 2), ("a", "y", 1))
        road = ring + ring + ring[:1]
        self.assertIs(shows_chain(registry, "f", ("y", "a"), ("between", road, ring)), False)
        self.assertEqual(chain(registry, "f", ("b", "y")), ("between", (("b", "a", 0),), (("a", "y", 0),)))

    def test_nothing_is_cached_or_changed(self):
        registry, _ = both([("a", ()), ("b", ())], [("a", "f"), ("b", "f")])
        before = (registry.deeds, repr(registry))
        shows_chain(registry, "f", ("a", "b"), chain(registry, "f", ("a", "b")))
        self.assertEqual((registry.cached(), registry.deeds, repr(registry)), ([],) + before)

    def test_keywords(self):
        registry, _ = both([("a", ()), ("b", ())], [("a", "f"), ("b", "f")])
        self.assertEqual(chain(registry=registry, call="f", kinds=("a", "b"), lost=True), ("can", ("a", "b")))
        self.assertIs(shows_chain(registry=registry, call="f", kinds=("a", "b"), paper=("can", ("a", "b"))), True)
        self.assertIs(shows_chain(registry, "f", ("a", "b"), paper=("can", ("a",)), lost=False), False)
        with self.assertRaises(TypeError):
            chain(registry, "f", ("a", "b"), True)
        with self.assertRaises(TypeError):
            shows_chain(registry, "f", ("a", "b"), ("can", ("a", "b")), True)

    def test_the_empty_registry(self):
        self.assertEqual(told(chain, Registry(), "f", ("a", "b")), ("NoChain", {"at": 0}))


if __name__ == "__main__":
    unittest.main()

"""Points 5 and 6: merges and rings; what point 3 says of them."""

import copy
import itertools
import random
import time
import unittest

from openlines.errors import NoMerge
from openlines.lines import is_ring, merged
from plain import plain_demands, plain_least_ring, plain_merge, plainly_ring
from values import ANY_VALUES, VALUES_BUT_DESKS, replaced


def ring_of(lists):
    """The ring that merged raises; None if there is a merge."""
    try:
        merged(lists)
    except NoMerge as error:
        return error.ring
    return None


def some_lists(chance, names, many, length, along=0.7):
    """Random lists; along is the share of those that follow one order, so that both answers occur."""
    lists = []
    for _ in range(chance.randrange(many + 1)):
        picked = chance.sample(names, chance.randrange(min(length, len(names)) + 1))
        if chance.random() < along:
            picked.sort()
        lists.append(tuple(picked))
    return tuple(lists)


def some_walk(chance, demands, many):
    """Random demands, each one behind the one before; the last one leads back if one can."""
    walk = ()
    while len(walk) < many:
        further = [demand for demand in demands if not walk or demand[0] == walk[-1][1]]
        if len(walk) == many - 1:
            further = [demand for demand in further if demand[1] == walk[0][0]] or further
        if not further:
            break
        walk += (chance.choice(further),)
    return walk


def long_ring(many, length):
    """Lists of which each one demands a step of one ring, beside other names."""
    lists = []
    for at in range(many):
        ends = ["m" + chr(97 + at), "m" + chr(97 + (at + 1) % many)]
        rest = ["n" + chr(97 + at) + chr(97 + k) for k in range(length - 2)]
        lists.append(tuple(ends[:1] + rest + ends[1:]))
    return tuple(lists)


class MergeTest(unittest.TestCase):
    def test_examples_of_the_document(self):
        self.assertEqual(merged((("a", "c"), ("b", "c"), ("a", "b"))), ("a", "b", "c"))
        with self.assertRaises(NoMerge) as caught:
            merged((("a", "b"), ("b", "a")))
        self.assertEqual(caught.exception.ring, (("a", "b", 0), ("b", "a", 1)))

    def test_no_lists_and_empty_ones(self):
        self.assertEqual(merged(()), ())
        self.assertEqual(merged(((),)), ())
        self.assertEqual(merged(((), (), ())), ())
        self.assertEqual(merged(((), ("a",), ())), ("a",))

    def test_keywords(self):
        self.assertEqual(merged(lists=(("b", "a"),)), ("b", "a"))
        with self.assertRaises(NoMerge):
            merged(lists=(("a", "b"), ("b", "a")))

    def test_the_first_list_comes_first(self):
        self.assertEqual(merged((("b",), ("a",))), ("b", "a"))
        self.assertEqual(merged((("b", "c"), ("a",))), ("b", "c", "a"))
        self.assertEqual(merged((("b", "c"), ("a", "c"))), ("b", "a", "c"))

    def test_the_search_begins_at_the_first_list_each_time(self):
        self.assertEqual(merged((("x", "p"), ("q", "x"), ("q", "r"))), ("q", "x", "p", "r"))

    def test_equal_lists(self):
        self.assertEqual(merged((("a", "b"), ("a", "b"))), ("a", "b"))

    def test_the_result_is_a_tuple(self):
        self.assertIs(type(merged(())), tuple)
        self.assertIs(type(merged((("a",),))), tuple)

    def test_all_lists_of_three_names(self):
        rows = [picked for many in range(4) for picked in itertools.permutations("abc", many)]
        for many in range(4):
            for lists in itertools.product(rows, repeat=many):
                merge = plain_merge(lists)
                ring = plain_least_ring(lists)
                self.assertEqual(merge is None, ring is not None)
                self.assertEqual(ring_of(lists), ring)
                if merge is not None:
                    self.assertEqual(merged(lists), merge)

    def test_many_lists(self):
        chance = random.Random(5)
        seen = {}
        for _ in range(3000):
            lists = some_lists(chance, list("abcdef"), 5, 4)
            merge = plain_merge(lists)
            if merge is None:
                ring = plain_least_ring(lists)
                seen[len(ring)] = True
                self.assertEqual(ring_of(lists), ring)
                self.assertIs(is_ring(lists, ring), True)
            else:
                self.assertIsNone(plain_least_ring(lists))
                self.assertEqual(merged(lists), merge)
        self.assertTrue(2 in seen and 3 in seen)

    def test_long_lists(self):
        chance = random.Random(6)
        names = [one + two for one in "abcdef" for two in "abcdef"]
        for _ in range(300):
            lists = some_lists(chance, names, 20, 12)
            merge = plain_merge(lists)
            if merge is None:
                self.assertIs(is_ring(lists, ring_of(lists)), True)
            else:
                self.assertEqual(merged(lists), merge)

    def test_arguments_are_not_changed(self):
        lists = (["a", "c"], ["b", "c"], ["a", "b"])
        self.assertEqual(merged(lists), ("a", "b", "c"))
        self.assertEqual(lists, (["a", "c"], ["b", "c"], ["a", "b"]))

    def test_earlier_calls_do_not_matter(self):
        lists = (("a", "b"), ("b", "c"), ("c", "a"))
        self.assertEqual(ring_of(lists), ring_of(lists))
        self.assertEqual(merged(lists[:2]), merged(lists[:2]))


class LeastRingTest(unittest.TestCase):
    def test_the_shortest_ahead_of_the_least(self):
        lists = (("a", "b"), ("b", "c"), ("c", "a"), ("y", "z"), ("z", "y"))
        self.assertEqual(ring_of(lists), (("y", "z", 3), ("z", "y", 4)))

    def test_the_ring_begins_at_its_least_name(self):
        self.assertEqual(ring_of((("b", "a"), ("a", "b"))), (("a", "b", 1), ("b", "a", 0)))
        self.assertEqual(ring_of((("c", "a"), ("b", "c"), ("a", "b"))),
                         (("a", "b", 2), ("b", "c", 1), ("c", "a", 0)))

    def test_the_least_second_name(self):
        lists = (("a", "c"), ("c", "a"), ("a", "b"), ("b", "a"))
        self.assertEqual(ring_of(lists), (("a", "b", 2), ("b", "a", 3)))

    def test_the_least_index(self):
        lists = (("x",), ("a", "b"), ("a", "b"), ("b", "a"), ("b", "a"))
        self.assertEqual(ring_of(lists), (("a", "b", 1), ("b", "a", 3)))

    def test_demands_reach_over_other_names(self):
        lists = (("a", "x", "y", "b"), ("b", "z", "a"))
        self.assertEqual(ring_of(lists), (("a", "b", 0), ("b", "a", 1)))

    def test_a_second_name_that_only_leads_back_later(self):
        lists = (("a", "b"), ("b", "d"), ("d", "e"), ("e", "a"), ("a", "c"), ("c", "e"))
        self.assertEqual(ring_of(lists), (("a", "c", 4), ("c", "e", 5), ("e", "a", 3)))

    def test_names_that_are_taken_first_do_not_matter(self):
        lists = (("x", "a", "b"), ("x", "b", "a"))
        self.assertEqual(ring_of(lists), (("a", "b", 0), ("b", "a", 1)))

    def test_a_ring_through_twenty_lists(self):
        lists = long_ring(20, 12)
        ring = ring_of(lists)
        self.assertEqual([row[2] for row in ring], list(range(20)))
        self.assertEqual([row[0] for row in ring], ["m" + chr(97 + at) for at in range(20)])
        self.assertIs(is_ring(lists, ring), True)
        self.assertEqual(len(merged(lists[:19])), 210)

    def test_the_form_of_the_ring(self):
        ring = ring_of((("a", "b"), ("b", "a")))
        self.assertEqual(repr(ring), "(('a', 'b', 0), ('b', 'a', 1))")


class LimitTest(unittest.TestCase):
    def test_answers_come_in_a_short_time(self):
        chance = random.Random(7)
        names = ["n" + one + two for one in "abcdefghijkl" for two in "abcdefghijklmnopqrst"]
        started = time.process_time()
        for _ in range(20):
            chance.shuffle(names)
            lists = tuple([tuple(names[12 * at:12 * at + 12]) for at in range(20)])
            self.assertEqual(merged(lists), tuple(names))
            mixed = tuple([tuple(chance.sample(names, 12)) for _ in range(20)])
            self.assertEqual(ring_of(mixed) is None, plain_merge(mixed) is not None)
            self.assertEqual(len(ring_of(long_ring(20, 12))), 20)
        self.assertLess(time.process_time() - started, 20)

    def test_somewhat_beyond_the_limits(self):
        self.assertEqual(len(ring_of(long_ring(25, 20))), 25)
        self.assertEqual(merged((("abcdefghij", "a"),) * 30), ("abcdefghij", "a"))


class RingTest(unittest.TestCase):
    lists = (("a", "b", "c"), ("c", "a"), ("b", "a"))

    def ring(self, thing):
        self.assertIs(is_ring(self.lists, thing), True)

    def no_ring(self, thing):
        self.assertIs(is_ring(self.lists, thing), False)

    def test_shortest_rings(self):
        self.ring((("a", "b", 0), ("b", "a", 2)))
        self.ring((("b", "a", 2), ("a", "b", 0)))
        self.ring((("a", "c", 0), ("c", "a", 1)))

    def test_longer_rings(self):
        self.ring((("a", "b", 0), ("b", "c", 0), ("c", "a", 1)))
        self.ring((("a", "b", 0), ("b", "a", 2)) * 2)
        self.ring((("a", "b", 0), ("b", "a", 2), ("a", "c", 0), ("c", "a", 1)))
        self.ring((("a", "b", 0), ("b", "a", 2)) * 800)

    def test_no_rings(self):
        self.no_ring(())
        self.no_ring((("a", "b", 0),))
        self.no_ring((("a", "b", 0), ("b", "c", 0)))
        self.no_ring((("a", "b", 0), ("c", "a", 1)))
        self.no_ring((("b", "a", 2), ("b", "a", 2)))
        self.no_ring((("a", "a", 0), ("a", "a", 0)))
        self.no_ring((("a", "b", 0), ("b", "a", 2)) * 800 + (("a", "b", 0),))

    def test_demands_of_other_lists(self):
        self.no_ring((("a", "b", 2), ("b", "a", 2)))
        self.no_ring((("a", "b", 0), ("b", "a", 0)))
        self.no_ring((("a", "b", 0), ("b", "a", 1)))
        self.no_ring((("a", "d", 0), ("d", "a", 2)))

    def test_indexes(self):
        self.no_ring((("a", "b", 0), ("b", "a", -1)))
        self.no_ring((("a", "b", -3), ("b", "a", 2)))
        self.no_ring((("a", "b", 0), ("b", "a", 3)))
        self.no_ring((("a", "b", 0), ("b", "a", 10 ** 59)))
        self.no_ring((("a", "b", False), ("b", "a", 2)))
        self.no_ring((("a", "c", 0), ("c", "a", True)))
        self.no_ring((("a", "b", None), ("b", "a", 2)))
        self.no_ring((("a", "b", "0"), ("b", "a", 2)))

    def test_other_forms(self):
        self.no_ring([("a", "b", 0), ("b", "a", 2)])
        self.no_ring((["a", "b", 0], ["b", "a", 2]))
        self.no_ring((("a", "b", 0), ["b", "a", 2]))
        self.no_ring((("a", "b"), ("b", "a")))
        self.no_ring((("a", "b", 0, 0), ("b", "a", 2, 0)))
        self.no_ring(((("a",), "b", 0), ("b", ("a",), 2)))
        self.no_ring(("ab0", "ba2"))

    def test_keywords(self):
        self.assertIs(is_ring(thing=(("a", "b", 0), ("b", "a", 2)), lists=self.lists), True)
        self.assertIs(is_ring(self.lists, thing=()), False)

    def test_no_lists(self):
        for lists in ((), ((),), (("a",),), (("a", "b"),)):
            self.assertIs(is_ring(lists, ()), False)
            self.assertIs(is_ring(lists, (("a", "b", 0), ("b", "a", 0))), False)
            self.assertIs(is_ring(lists, (("a", "b", 0), ("b", "a", 1))), False)

    def test_any_value(self):
        for lists in ((), self.lists):
            for thing in ANY_VALUES:
                self.assertIs(is_ring(lists, thing), False)

    def test_any_value_in_a_ring(self):
        for ring in ((("a", "b", 0), ("b", "a", 2)), (("a", "b", 0), ("b", "c", 0), ("c", "a", 1))):
            for thing in replaced(ring):
                self.assertIs(is_ring(self.lists, thing), plainly_ring(self.lists, thing))

    def test_all_rings_of_small_lists(self):
        rows = [row for row in itertools.product("abc", "abc", (0, 1, 2, 3))]
        for many in (0, 1, 2):
            for thing in itertools.product(rows, repeat=many):
                self.assertIs(is_ring(self.lists, thing), plainly_ring(self.lists, thing))

    def test_many_rings(self):
        chance = random.Random(8)
        seen = 0
        for _ in range(2000):
            lists = some_lists(chance, list("abcd"), 4, 4, along=0)
            thing = some_walk(chance, plain_demands(lists), chance.randrange(2, 6))
            self.assertIs(is_ring(lists, thing), plainly_ring(lists, thing))
            seen += is_ring(lists, thing)
        self.assertGreater(seen, 100)
        self.assertLess(seen, 1900)

    def test_a_ring_is_accepted_exactly_if_no_merge(self):
        chance = random.Random(9)
        for _ in range(500):
            lists = some_lists(chance, list("abcd"), 4, 4)
            ring = plain_least_ring(lists)
            self.assertEqual(ring is None, ring_of(lists) is None)
            self.assertIs(is_ring(lists, ring), ring is not None)

    def test_arguments_are_not_changed(self):
        for thing in VALUES_BUT_DESKS:
            before = copy.deepcopy(thing)
            is_ring(self.lists, thing)
            self.assertEqual(thing, before)


if __name__ == "__main__":
    unittest.main()

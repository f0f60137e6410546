"""Point 20: courses, longest courses, courses that end lost, and seals; what point 3 says of them."""

import itertools
import random
import unittest

from openlines.chains import chain
from openlines.errors import Absent, NoCall, NoKind
from openlines.futures import future_line, verdict
from openlines.registry import Registry
from openlines.runs import courses, longest, lost, seal_paper, seals, shows_seal
from plain import plain_course, plain_courses, plain_hindrances, plain_seals, plain_strays, plainly_shows_seal
from small import all_small, both, some_registries
from told import refused, told
from values import ANY_VALUES, replaced

NEXT = (("next",),)


def first_of_courses(registry, kind, call):
    """The first item of the courses, so that their errors are raised."""
    return next(courses(registry, kind, call))


def some_seal_papers(chance, plain, kind):
    """Papers about a seal of which some hold, whoever wrote them."""
    names = plain.kinds()
    papers = [("skipped", bases) for many in range(3) for bases in itertools.permutations(names, many)]
    papers += [("skipped", tuple(chance.sample(names, len(names)))) for _ in range(3)]
    strays = plain_strays(plain, kind, "f")
    found = [[(name, paper) for paper in plain_hindrances(plain, kind, "f", name)] for name in strays]
    for picked in list(itertools.product(*found))[:20]:
        papers.append(("seal", picked))
    rows = [(name, paper) for name in names for paper in plain_hindrances(plain, kind, "f", name)]
    for _ in range(6):
        papers.append(("seal", tuple(chance.sample(rows, min(len(rows), chance.randrange(3))))))
    rows = [(name, verdict) for name in strays for verdict in (("behind",), ("no body",), ("can", (kind, name)))]
    return papers + [("seal", (row,)) for row in rows]


class CourseTest(unittest.TestCase):
    def check_list_of(self, registry, plain, found, kind):
        """Check that the list that is returned with a course is a future list with this very course."""
        course, bases = found
        line = future_line(registry, bases)
        self.assertIn(kind, line)
        self.assertEqual(plain_course(plain, line, kind, "f")[0], course)

    def check_registry(self, registry, plain, futures=None):
        """Check all that is asked about the kinds with a body; return the longest, lost and numbers of seals."""
        seen = {}
        futures = plain.all_futures() if futures is None else futures
        for kind in registry.kinds():
            if (kind, "f") not in plain.rows_of:
                continue
            wanted = plain_courses(plain, futures, kind, "f")
            self.assertEqual(list(courses(registry, kind, "f")), wanted)
            found = longest(registry, kind, "f")
            self.assertEqual(found[0], min([course for course, _ in wanted], key=lambda row: (-len(row), row)))
            self.check_list_of(registry, plain, found, kind)
            ending = [course for course, ends in wanted if ends]
            other = lost(registry, kind, "f")
            if ending:
                self.assertEqual(other[0], min(ending, key=lambda row: (len(row), row)))
                self.check_list_of(registry, plain, other, kind)
            else:
                self.assertIs(other, None)
            self.check_seals(registry, plain, futures, kind)
            seen[len(found[0]), None if other is None else len(other[0]), len(seals(registry, kind, "f"))] = True
        return seen

    def check_seals(self, registry, plain, futures, kind):
        wanted = plain_seals(plain, futures, kind, "f")
        self.assertEqual(seals(registry, kind, "f"), wanted)
        for target in registry.kinds():
            if target == kind:
                continue
            paper = seal_paper(registry, kind, "f", target)
            self.assertEqual(paper[0] == "seal", target in wanted)
            self.assertIs(shows_seal(registry, kind, "f", target, paper), True)
            self.assertIs(plainly_shows_seal(plain, futures, kind, "f", target, paper), True)

    def check_seal_papers(self, chance, registry, plain, futures):
        """Check papers, whoever wrote them; return the words of those that hold."""
        words = []
        for kind in registry.kinds():
            if (kind, "f") in plain.rows_of:
                papers = some_seal_papers(chance, plain, kind)
                for target in [name for name in registry.kinds() if name != kind]:
                    word = seal_paper(registry, kind, "f", target)[0]
                    for paper in papers:
                        holds = plainly_shows_seal(plain, futures, kind, "f", target, paper)
                        self.assertIs(shows_seal(registry, kind, "f", target, paper), holds)
                        if holds:
                            self.assertEqual(paper[0], word)
                            words.append(word)
        return words

    def test_all_small_registries(self):
        chance = random.Random(1)
        seen, words = {}, []
        for names in ("bca", "cab"):
            for rows in all_small(names):
                for many in range(1, 4):
                    for definers in itertools.combinations(names, many):
                        for settled in [part for few in range(many + 1) for part in
                                        itertools.combinations(definers, few)]:
                            registry, plain = both(rows, [(kind, "f") for kind in definers], settled)
                            seen.update(self.check_registry(registry, plain))
                            words += self.check_seal_papers(chance, registry, plain, plain.all_futures())
        for one in ((1, None, 0), (1, 1, 0), (2, None, 1), (2, 2, 1), (3, 1, 0), (3, None, 1), (3, 3, 2)):
            self.assertIn(one, seen)
        self.assertGreater(words.count("seal"), 100)
        self.assertGreater(words.count("skipped"), 100)

    def test_registries_of_four_kinds(self):
        chance = random.Random(2)
        words = []
        for rows in list(all_small("cadb"))[::3]:
            definers = chance.sample("abcd", chance.randrange(1, 5))
            settled = [kind for kind in "abcd" if chance.random() < 0.3]
            registry, plain = both(rows, [(kind, "f") for kind in definers], settled)
            self.check_registry(registry, plain)
            words += self.check_seal_papers(chance, registry, plain, plain.all_futures())
        self.assertGreater(words.count("seal"), 20)

    def test_larger_registries(self):
        chance = random.Random(3)
        seen = {}
        for registry, plain in some_registries(31, 60, 5, share=0.2):
            seen.update(self.check_registry(registry, plain))
        for registry, plain in some_registries(32, 12, 6, share=0.2):
            futures = plain.all_futures()
            seen.update(self.check_registry(registry, plain, futures))
            self.check_seal_papers(chance, registry, plain, futures)
        self.assertGreaterEqual(max([most for most, _, _ in seen]), 5)

    def test_other_calls_do_not_matter(self):
        for registry, plain in some_registries(33, 30, 4, ("f", "g", "h"), 4, 0.3):
            self.check_registry(registry, plain)

    def test_ten_kinds_of_which_six_have_a_body(self):
        names = "abcdefghij"
        registry, _ = both([(name, ()) for name in names], [(kind, "f") for kind in "bdfhij"])
        found = list(courses(registry, "f", "f"))
        # One after another, the five others stand in any order behind f.
        wanted = [("f",) + rest for many in range(6) for rest in itertools.permutations("bdhij", many)]
        self.assertEqual(found, [(course, True) for course in sorted(wanted)])
        self.assertEqual(longest(registry, "f", "f")[0], ("f", "b", "d", "h", "i", "j"))
        self.assertEqual(lost(registry, "f", "f"), (("f",), ("f",)))
        self.assertEqual(seals(registry, "f", "f"), [])

    def test_the_beginnings_of_courses_are_possible_chains(self):
        for registry, plain in some_registries(34, 30, 4, share=0.3):
            for kind in registry.kinds():
                if (kind, "f") not in plain.rows_of:
                    continue
                begun = [course[:many] for course, _ in courses(registry, kind, "f")
                         for many in range(2, len(course) + 1)]
                for many in range(2, 5):
                    for rest in itertools.permutations([name for name in registry.kinds() if name != kind], many - 1):
                        kinds = (kind,) + rest
                        if not all([(name, "f") in plain.rows_of for name in rest]):
                            continue
                        on = all([("next",) in plain.rows_of[name, "f"] for name in kinds[:-1]])
                        self.assertEqual(kinds in begun, on and chain(registry, "f", kinds)[0] == "can")

    def test_the_example_of_the_document(self):
        registry, _ = both([("c", ()), ("b", ("c",)), ("a", ("c",))], [(kind, "f") for kind in "abc"])
        course, bases = longest(registry, "a", "f")
        self.assertEqual(course, ("a", "b", "c"))
        self.assertIn(bases, (("a", "b"), ("a", "b", "c")))
        self.assertEqual(list(courses(registry, "a", "f")), [(("a", "b", "c"), True), (("a", "c"), True)])
        self.assertEqual(lost(registry, "a", "f")[0], ("a", "c"))
        self.assertEqual(seals(registry, "a", "f"), ["c"])

    def test_a_body_that_does_not_hand_on(self):
        registry, _ = both([("b", ()), ("a", ("b",))], [("a", "f"), ("b", "f")], ["a"])
        self.assertEqual(list(courses(registry, "a", "f")), [(("a",), False)])
        self.assertEqual(longest(registry, "a", "f")[0], ("a",))
        self.assertIs(lost(registry, "a", "f"), None)
        self.assertEqual(seals(registry, "a", "f"), [])
        self.assertEqual(seal_paper(registry, "a", "f", "b")[0], "skipped")
        self.assertEqual(list(courses(registry, "b", "f")), [(("b",), True)])

    def test_a_body_hands_on_if_one_of_its_rows_does(self):
        registry = Registry.built([("b", ()), ("a", ("b",))])
        registry.set_body("b", "f", ())
        for body, on in (((), False), ((("say", "next"),), False), ((("call", "next"),), False),
                         ((("say", "hi"), ("next",), ("say", "hi")), True), ((("next",), ("next",)), True)):
            registry.set_body("a", "f", body)
            wanted = (("a", "b"), False) if on else (("a",), False)
            self.assertEqual(list(courses(registry, "a", "f")), [wanted])

    def test_of_equal_courses_the_least(self):
        registry, _ = both([(name, ()) for name in "dcba"], [(kind, "f") for kind in "abcd"], ["b"])
        self.assertEqual(longest(registry, "d", "f")[0], ("d", "a", "c", "b"))
        self.assertEqual(lost(registry, "d", "f")[0], ("d",))
        registry.rebase("d", ("c",))
        self.assertEqual(longest(registry, "d", "f")[0], ("d", "a", "c", "b"))
        self.assertEqual(lost(registry, "d", "f")[0], ("d", "c"))
        registry.rebase("d", ())
        registry.rebase("c", ("d",))
        self.assertEqual(longest(registry, "c", "f")[0], ("c", "a", "d", "b"))

    def test_seals_and_strays(self):
        rows = [("z", ()), ("y", ("z",)), ("x", ("y",)), ("s", ("x",)), ("q", ()), ("p", ("q",))]
        registry, plain = both(rows, [(kind, "f") for kind in "zyxs"], ["s", "z"])
        self.assertEqual(seals(registry, "x", "f"), ["y", "z"])
        self.assertEqual(seal_paper(registry, "x", "f", "y"), ("seal", (("s", ("behind",)),)))
        # What stands behind a seal that does not hand on is not sealed.
        registry.set_body("y", "f", ())
        self.assertEqual(seals(registry, "x", "f"), ["y"])
        self.assertEqual(seal_paper(registry, "x", "f", "z"), ("skipped", ("x",)))
        registry.undo()
        # One stray that can come next breaks all seals.
        registry.set_body("p", "f", ())
        self.assertEqual(seals(registry, "x", "f"), [])
        for target in ("y", "z"):
            word, bases = seal_paper(registry, "x", "f", target)
            self.assertEqual(word, "skipped")
            self.assertEqual(verdict(registry, "x", "f", "p")[0], "can")
        self.assertEqual(seal_paper(registry, "x", "f", "p"), ("skipped", ("x",)))
        registry.set_body("p", "f", NEXT)
        self.assertEqual(seals(registry, "x", "f"), ["y", "z"])
        self.assertEqual(plain.kinds(), registry.kinds())

    def test_strays_that_clash(self):
        rows = [("m", ()), ("n", ()), ("a", ("m", "n")), ("s", ("n", "m")), ("t", ("a",))]
        registry, plain = both(rows, [(kind, "f") for kind in "amnst"], ["s", "t"])
        paper = ("seal", (("s", ("clash", "m", "n")), ("t", ("behind",))))
        self.assertEqual(seal_paper(registry, "a", "f", "n"), paper)
        self.assertEqual(seals(registry, "a", "f"), ["m", "n"])
        futures = plain.all_futures()
        for wrong in (("seal", paper[1][::-1]), ("seal", paper[1][:1]), ("seal", paper[1] + paper[1][1:]), ("seal", ()),
                      ("seal", (("s", ("clash", "n", "m")), paper[1][1])), ("seal", (("s", ("behind",)), paper[1][1])),
                      ("seal", (paper[1][0], ("t", ("clash", "m", "n")))), ("seal", (paper[1][0], ("t", ("no body",)))),
                      ("seal", (paper[1][0], ("t", ("between", "m")))), ("skipped", ("a",)), ("skipped", ("a", "s")),
                      ("skipped", ("s",)), ("skipped", ())):
            self.assertIs(shows_seal(registry, "a", "f", "n", wrong), False, wrong)
            self.assertIs(plainly_shows_seal(plain, futures, "a", "f", "n", wrong), False)

    def test_any_value_as_a_paper(self):
        rows = [("m", ()), ("n", ()), ("a", ("m", "n")), ("s", ("n", "m")), ("t", ("a",))]
        registry, plain = both(rows, [(kind, "f") for kind in "amnst"], ["s", "t"])
        futures = plain.all_futures()
        for kind, target in (("a", "n"), ("m", "n"), ("a", "t"), ("n", "s")):
            paper = seal_paper(registry, kind, "f", target)
            for thing in list(ANY_VALUES) + list(replaced(paper)):
                holds = type(thing) is tuple and len(thing) == 2 and plainly_shows_seal(
                    plain, futures, kind, "f", target, thing)
                self.assertIs(shows_seal(registry, kind, "f", target, thing), holds, thing)


class AskingTest(unittest.TestCase):
    def test_errors_when_the_first_item_is_asked_for(self):
        registry, _ = both([("a", ()), ("b", ())], [("a", "f")])
        for arguments in (("z", "f"), ("a", "F"), ("a", "g"), (None, None)):
            asked = courses(registry, *arguments)
            self.assertNotEqual(told(next, asked)[0], "returned")
        asked = courses(registry, "b", "f")
        registry.set_body("b", "f", ())
        self.assertEqual(list(asked), [(("b",), False)])
        asked = courses(registry, "b", "f")
        registry.clear_body("b", "f")
        self.assertEqual(told(next, asked), ("Absent", {"kind": "b", "call": "f"}))

    def test_edits_behind_the_first_item_change_nothing(self):
        edits = [("set_body", ("d", "f", ())), ("clear_body", ("b", "f")), ("drop", ("c",)), ("rebase", ("a", ("c",))),
                 ("set_body", ("a", "f", ())), ("add", ("e", ("a", "b"))), ("undo", ()), ("clear_body", ("a", "f"))]
        rows = [(name, ()) for name in "abcd"]
        wanted = list(courses(both(rows, [(kind, "f") for kind in "abc"])[0], "a", "f"))
        self.assertEqual(len(wanted), 5)
        for many in range(1, 5):
            for word, arguments in edits:
                registry, _ = both(rows, [(kind, "f") for kind in "abc"])
                asked = courses(registry, "a", "f")
                found = [next(asked) for _ in range(many)]
                getattr(registry, word)(*arguments)
                self.assertEqual(found + list(asked), wanted)

    def test_two_askers_do_not_meet(self):
        registry, _ = both([(name, ()) for name in "abc"], [(kind, "f") for kind in "abc"])
        one, other = courses(registry, "a", "f"), courses(registry, "a", "f")
        found = [(next(one), next(other)) for _ in range(5)]
        self.assertEqual([row[0] for row in found], [row[1] for row in found])
        self.assertEqual((list(one), list(other)), ([], []))
        self.assertIs(iter(one), one)

    def test_the_order_of_errors(self):
        registry, _ = both([("a", ()), ("b", ())], [("a", "f")])
        rows = [(first_of_courses, ()), (longest, ()), (lost, ()), (seals, ()), (seal_paper, ("z",)),
                (shows_seal, ("z", None))]
        for function, more in rows:
            refused(self, registry, NoKind, {"name": "z"}, function, registry, "z", "F", *more)
            refused(self, registry, NoCall, {"call": "F"}, function, registry, "b", "F", *more)
            refused(self, registry, Absent, {"kind": "b", "call": "f"}, function, registry, "b", "f", *more)
            refused(self, registry, Absent, {"kind": "a", "call": "g"}, function, registry, "a", "g", *more)
        for function, more in ((seal_paper, ()), (shows_seal, (None,))):
            for target in ("z", "a", None):
                refused(self, registry, NoKind, {"name": target}, function, registry, "a", "f", target, *more)
            self.assertEqual(told(function, registry, "a", "f", "b", *more)[0], "returned")

    def test_any_value_as_arguments(self):
        registry, _ = both([("a", ()), ("b", ())], [("a", "f")])
        rows = [(first_of_courses, ()), (longest, ()), (lost, ()), (seals, ()), (seal_paper, ("b",)),
                (shows_seal, ("b", None))]
        for thing in ANY_VALUES:
            for function, more in rows:
                if thing not in ("a", "b"):
                    refused(self, registry, NoKind, {"name": thing}, function, registry, thing, thing, *more)
                if not registry.is_name(thing):
                    refused(self, registry, NoCall, {"call": thing}, function, registry, "a", thing, *more)
                elif thing != "f":
                    fields = {"kind": "a", "call": thing}
                    refused(self, registry, Absent, fields, function, registry, "a", thing, *more)
            for function, more in ((seal_paper, ()), (shows_seal, (("skipped", ("a",)),))):
                if thing != "b":
                    refused(self, registry, NoKind, {"name": thing}, function, registry, "a", "f", thing, *more)

    def test_an_empty_body_is_a_body(self):
        registry = Registry.built([("a", ())])
        registry.set_body("a", "f", ())
        self.assertEqual(list(courses(registry, "a", "f")), [(("a",), False)])

    def test_nothing_is_cached_or_changed(self):
        registry, _ = both([("b", ()), ("a", ("b",)), ("c", ())], [(kind, "f") for kind in "abc"])
        before = (registry.deeds, repr(registry), registry.kinds())
        list(courses(registry, "a", "f"))
        longest(registry, "a", "f")
        lost(registry, "a", "f")
        seals(registry, "a", "f").append("z")
        shows_seal(registry, "a", "f", "b", seal_paper(registry, "a", "f", "b"))
        self.assertEqual(registry.cached(), [])
        self.assertEqual((registry.deeds, repr(registry), registry.kinds()), before)
        self.assertEqual(seals(registry, "a", "f"), ["b"])

    def test_kinds_of_values(self):
        registry, _ = both([("b", ()), ("a", ("b",))], [("a", "f"), ("b", "f")])
        self.assertEqual(repr(list(courses(registry, "a", "f"))), "[(('a', 'b'), True)]")
        self.assertEqual(repr(longest(registry, "a", "f")), "(('a', 'b'), ('a', 'b'))")
        self.assertEqual(repr(lost(registry, "a", "f")), "(('a', 'b'), ('a',))")
        self.assertEqual(repr(seals(registry, "a", "f")), "['b']")
        self.assertEqual(repr(seal_paper(registry, "a", "f", "b")), "('seal', ())")

    def test_keywords(self):
        registry, _ = both([("b", ()), ("a", ("b",))], [("a", "f"), ("b", "f")])
        self.assertEqual(list(courses(call="f", registry=registry, kind="a")), [(("a", "b"), True)])
        self.assertEqual(longest(kind="a", call="f", registry=registry)[0], ("a", "b"))
        self.assertEqual(lost(registry, call="f", kind="a")[0], ("a", "b"))
        self.assertEqual(seals(registry, "a", call="f"), ["b"])
        paper = seal_paper(target="b", call="f", kind="a", registry=registry)
        self.assertIs(shows_seal(paper=paper, target="b", call="f", kind="a", registry=registry), True)


if __name__ == "__main__":
    unittest.main()

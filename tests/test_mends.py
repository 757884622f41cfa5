import itertools
import random
import unittest

import samples
import trials
from makerlines.errors import BadCallers, BadWish
from makerlines.kinds import Kind
from makerlines.wishes import judge, mends
from test_kinds import spoil

WISHES = ("steady", "own")
CALLERS = ("onward", "forks")


def places(kind):
    return [(call[0], field) for call in kind.calls() for field in call[4]]


def without(kind, some):
    for name, field in some:
        kind = kind.own(name, field)
    return kind


def least_sets(kind, wish, callers):
    """[26], by all sets of places."""
    found = []
    for many in range(len(places(kind)) + 1):
        for some in itertools.combinations(places(kind), many):
            is_known = any(set(known) <= set(some) for known in found)
            if not is_known and judge(without(kind, some), wish, callers)[0] == "holds":
                found.append(list(some))
    return found


def is_small(kind, wish, callers):
    verdict, told = judge(without(kind, places(kind)), wish, callers)
    return verdict == "broken" or len(told) < 300


class Mends(unittest.TestCase):
    """[26]"""

    def test_all_sets_of_places(self):
        found = {}
        kinds = [samples.shares(), samples.hands_new(), samples.hands_new(()), samples.named()]
        kinds += [trials.small_kind(random.Random(seed), calls=(2, 5)) for seed in range(60)]
        for kind in kinds:
            for wish in WISHES:
                for callers in CALLERS:
                    if len(places(kind)) <= 5:
                        told = mends(kind, wish, callers)
                        found[wish, callers, min(len(told), 2)] = True
                        self.assertEqual(sorted(told), sorted(least_sets(kind, wish, callers)), kind.text())
        self.assertIn(("own", "forks", 0), found)
        self.assertIn(("steady", "forks", 2), found)
        self.assertIn(("steady", "onward", 1), found)

    def test_kinds_of_makers_with_parts_of_their_own(self):
        found = {}
        for seed in range(90):
            kind = trials.role_kind(random.Random(seed))
            for wish in WISHES:
                for callers in CALLERS:
                    if len(places(kind)) <= 4 and is_small(kind, wish, callers):
                        told = mends(kind, wish, callers)
                        found[wish, callers, min(len(told), 2)] = True
                        self.assertEqual(sorted(told), sorted(least_sets(kind, wish, callers)), kind.text())
        for callers in CALLERS:
            # With no list shared no product changes, so there is always a set for "steady".
            self.assertNotIn(("steady", callers, 0), found)
            self.assertIn(("steady", callers, 1), found)
            self.assertIn(("steady", callers, 2), found)
            self.assertIn(("own", callers, 0), found)
            self.assertIn(("own", callers, 1), found)

    def test_three_makers_count(self):
        """Only a mode of its own lets one bring the word, one take it out and one make the product."""
        kind = Kind([("a", "many", False)], [
            ("fork", "new", [1, 2, -1], [], ["a"]),
            ("add", "self", [0, -1, -1], [("add", "a")], []),
            ("strike", "self", [-1, 1, -1], [("strike", "a")], []),
            ("share", "last", [-1, -1, 2], [], ["a"]),
        ], modes=3)
        for wish in WISHES:
            self.assertEqual(sorted(mends(kind, wish)), sorted(least_sets(kind, wish, "forks")))
        self.assertEqual(sorted(mends(kind, "steady")), [[("fork", "a")], [("share", "a")]])
        self.assertEqual(mends(kind, "own"), [])

    def test_none_are_needed_where_the_wish_holds(self):
        for callers in CALLERS:
            self.assertEqual(mends(samples.hands_new(()), "own", callers), [[]])
            self.assertEqual(mends(samples.named(), "steady", callers), [[]])
        self.assertEqual(mends(samples.shares(), "own", "onward"), [[]])

    def test_none_help_where_the_wish_cannot_hold(self):
        self.assertEqual(mends(samples.shares(), "own"), [])
        # The field of sort "one" breaks the wish, whatever is left out for the other one.
        kind = Kind([("n", "one", False), ("a", "many", False)], [
            ("set", "self", [0], [("set", "n")], []), ("build", "last", [0], [("add", "a")], ["a"]),
        ])
        self.assertEqual(mends(kind, "own"), [])
        self.assertEqual(mends(kind, "steady"), [[("build", "a")]])

    def test_places_of_several_fields_in_order(self):
        kind = Kind([("a", "many", False), ("b", "many", False)], [
            ("add", "new", [0], [("add", "b"), ("add", "a")], ["b", "a"]),
            ("build", "last", [0], [], ["b", "a"]),
        ])
        for callers in CALLERS:
            self.assertEqual(sorted(mends(kind, "steady", callers)), sorted([
                [("add", "b"), ("add", "a")], [("add", "a"), ("build", "b")],
                [("add", "b"), ("build", "a")], [("build", "b"), ("build", "a")],
            ]))
        self.assertEqual(mends(kind, "own"), [[("add", "b"), ("add", "a")]])

    def test_a_set_is_least_though_it_is_not_smallest(self):
        """To part the product is one place, to part all that go on adding is two."""
        kind = Kind([("a", "many", False)], [
            ("one", "new", [0], [("add", "a")], ["a"]),
            ("two", "new", [0], [("add", "a")], ["a"]),
            ("build", "last", [0], [], ["a"]),
        ])
        for callers in CALLERS:
            self.assertEqual(sorted(mends(kind, "steady", callers)), [
                [("build", "a")], [("one", "a"), ("two", "a")],
            ])

    def test_eight_places(self):
        fields = [("a", "many", False), ("b", "many", False)]
        deeds = [("add", "a"), ("add", "b")]
        calls = [(name, "new", [0], deeds, ["a", "b"]) for name in ("p", "q", "r")]
        kind = Kind(fields, [*calls, ("z", "last", [0], [], ["a", "b"])])
        sets = [[(name, field) for name in "pqr"] for field in "ab"]
        expected = []
        for one in (sets[0], [("z", "a")]):
            for other in (sets[1], [("z", "b")]):
                expected.append([place for place in places(kind) if place in one + other])
        self.assertEqual(sorted(mends(kind, "steady")), sorted(expected))
        self.assertEqual(mends(kind, "own"), [[(name, field) for name in "pqr" for field in "ab"]])

    def test_forks_if_callers_are_not_told(self):
        kind = samples.shares()
        self.assertEqual(mends(kind=kind, wish="own"), [])
        self.assertEqual(mends(kind=kind, wish="own", callers="onward"), [[]])

    def test_equal_kinds_are_told_the_same_and_stay(self):
        for seed in range(20):
            kind = trials.small_kind(random.Random(seed))
            told = mends(kind, "steady")
            twin = Kind.of_text(kind.text())
            self.assertEqual(mends(twin, "steady"), told)
            spoil(mends(kind, "steady"))
            self.assertEqual(mends(kind, "steady"), told)
            self.assertEqual(kind, twin)

    def test_bad_wishes_and_callers(self):
        for thing in [*samples.any_objects(), "complete", "Own", ("own",)]:
            for callers in ("forks", thing):
                with self.assertRaises(BadWish) as caught:
                    mends(samples.shares(), thing, callers)
                self.assertIs(caught.exception.wish, thing)
            for wish in WISHES:
                with self.assertRaises(BadCallers) as caught:
                    mends(samples.shares(), wish, thing)
                self.assertIs(caught.exception.callers, thing)

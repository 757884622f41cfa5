import random
import unittest

import oracle
import samples
import standings_oracle
import trials
from makerlines.errors import BadCallers, BadRun, BadWish
from makerlines.kinds import Kind
from makerlines.runs import Run, own_things
from makerlines.wishes import is_broken, is_closed, judge
from test_kinds import listed, spoil, tupled

MAKE = ("make",)
WISHES = ("steady", "own", "complete")
CALLERS = ("onward", "forks")


def broken(wish, kind, rows):
    return is_broken(wish, Run(kind, rows))


def breaks_by_oracle(wish, kind, rows):
    """[20], read once more with real makers that hold real lists."""
    things = oracle.handed(kind, rows)
    products = [thing for thing in things if isinstance(thing, oracle.Product)]
    if wish == "steady":
        return any(oracle.snapshot(thing.held) != thing.early for thing in products)
    if wish == "complete":
        needs = [need for name, sort, need in kind.fields()]
        return any(need and not content for thing in products for need, content in zip(needs, thing.early))
    for k, thing in enumerate(things):
        own = oracle.own_thing(kind, rows, k)
        if thing.__class__ != own.__class__:
            return True
        if isinstance(thing, oracle.Product) and thing.early != own.early:
            return True
    return False


def samples_of_kinds():
    """The kinds of the examples, and small kinds of all sorts."""
    kinds = [samples.shares(), samples.hands_new(), samples.hands_new(()), samples.named()]
    return kinds + [trials.small_kind(random.Random(seed)) for seed in range(30)]


class IsBroken(unittest.TestCase):
    """[20]"""

    def test_steady(self):
        rows = [MAKE, ("build", 0), ("add", 0, "x")]
        self.assertIs(broken("steady", samples.shares(), rows), True)
        self.assertIs(broken("steady", samples.shares(), rows[:2]), False)
        self.assertIs(broken("steady", samples.shares().own("build", "a"), rows), False)

    def test_steady_asks_of_the_end_alone(self):
        calls = [*samples.SHARES_CALLS, ("strike", "self", [0], [("strike", "a")], [])]
        kind = Kind(samples.SHARES_FIELDS, calls)
        rows = [MAKE, ("build", 0), ("add", 0, "x"), ("strike", 0, "x")]
        self.assertIs(broken("steady", kind, rows[:3]), True)
        self.assertIs(broken("steady", kind, rows), False)
        self.assertIs(broken("steady", kind, [MAKE, ("add", 0, "x"), ("build", 0), ("strike", 0, "x")]), True)

    def test_own_by_contents(self):
        rows = [MAKE, ("add", 0, "x"), ("build", 0)]
        self.assertIs(broken("own", samples.shares(), rows), True)
        self.assertIs(broken("own", samples.shares(), [MAKE, ("add", 0, "x"), ("build", 1)]), False)
        self.assertIs(broken("own", samples.hands_new(()), rows), False)

    def test_own_does_not_ask_of_makers(self):
        self.assertIs(broken("own", samples.shares(), [MAKE, ("add", 0, "x")]), False)
        kind = Kind([("a", "one", False)], [("on", "self", [1, 1], [], [])], modes=2)
        self.assertIs(broken("own", kind, [MAKE, ("on", 0)]), False)

    def test_own_does_not_ask_of_later_changes(self):
        rows = [MAKE, ("build", 0), ("add", 0, "x")]
        self.assertIs(broken("own", samples.shares(), rows), False)

    def test_own_by_what_is_refused(self):
        kind = Kind([("a", "one", False)], [
            ("on", "self", [1, -1], [], []), ("off", "self", [-1, 0], [], []), ("end", "last", [-1, 1], [], []),
        ], modes=2)
        self.assertIs(broken("own", kind, [MAKE, ("on", 0), ("on", 0)]), True)
        self.assertIs(broken("own", kind, [MAKE, ("on", 0), ("off", 0)]), True)
        self.assertIs(broken("own", kind, [MAKE, ("on", 0), ("end", 0)]), True)
        self.assertIs(broken("own", kind, [MAKE, ("on", 0), ("end", 1), ("end", 1)]), False)
        self.assertIs(broken("own", kind, [MAKE, ("off", 0), ("end", 0), ("on", 1)]), False)

    def test_complete(self):
        rows = [MAKE, ("set", 0, "x"), ("build", 0)]
        self.assertIs(broken("complete", samples.named(), rows), False)
        self.assertIs(broken("complete", samples.named(), [MAKE, ("build", 0), ("set", 0, "x")]), True)
        self.assertIs(broken("complete", samples.named(), rows[:2]), False)

    def test_complete_asks_of_needed_lists_when_the_product_is_made(self):
        for need in (True, False):
            kind = Kind([("a", "many", need)], samples.SHARES_CALLS)
            self.assertIs(broken("complete", kind, [MAKE, ("build", 0)]), need)
            self.assertIs(broken("complete", kind, [MAKE, ("build", 0), ("add", 0, "x")]), need)
            self.assertIs(broken("complete", kind, [MAKE, ("add", 0, "x"), ("build", 0)]), False)
        kind = Kind([("a", "many", True)], [*samples.SHARES_CALLS, ("empty", "self", [0], [("clear", "a")], [])])
        self.assertIs(broken("complete", kind, [MAKE, ("add", 0, "x"), ("build", 0), ("empty", 0)]), False)
        kind = Kind([("n", "one", False), ("a", "many", True)], samples.SHARES_CALLS)
        self.assertIs(broken("complete", kind, [MAKE, ("add", 0, "x"), ("build", 0)]), False)

    def test_no_rows_break_nothing(self):
        for wish in WISHES:
            for rows in ([], [MAKE], [MAKE, MAKE]):
                self.assertIs(broken(wish, samples.rich(), rows), False)

    def test_random_programs(self):
        found = {}
        for seed in range(300):
            rng = random.Random(seed)
            kind = samples.random_kind(rng)
            rows = samples.random_rows(rng, kind, rng.randint(2, 12))
            for wish in WISHES:
                expected = breaks_by_oracle(wish, kind, rows)
                found[wish, expected] = True
                self.assertIs(broken(wish, kind, rows), expected, (wish, kind.text(), rows))
        self.assertEqual(len(found), 6)

    def test_the_run_stays(self):
        run = Run(samples.shares(), [MAKE, ("build", 0), ("add", 0, "x")])
        for wish in WISHES:
            is_broken(wish=wish, run=run)
        self.assertEqual(run, Run(samples.shares(), [MAKE, ("build", 0), ("add", 0, "x")]))

    def test_bad_wishes_ahead_of_bad_runs(self):
        run = Run(samples.shares())
        for thing in [*samples.any_objects(), "Steady", "steady ", "forks", ["own"], ("own",)]:
            for other in (run, None, thing):
                with self.assertRaises(BadWish) as caught:
                    is_broken(thing, other)
                self.assertIs(caught.exception.wish, thing)

    def test_bad_runs(self):
        for thing in [x for x in samples.any_objects() if not isinstance(x, Run)] + [[MAKE], own_things, Run]:
            for wish in WISHES:
                with self.assertRaises(BadRun) as caught:
                    is_broken(wish, thing)
                self.assertIs(caught.exception.thing, thing)


class Judge(unittest.TestCase):
    """[21]"""

    def assert_fewest(self, kind, wish, callers, most):
        """No program of at most this many rows breaks the wish that is shorter than the one told."""
        told = judge(kind, wish, callers)
        if told[0] == "broken":
            run = Run(kind, told[1])
            self.assertIs(is_broken(wish, run), True)
            self.assertTrue(callers == "forks" or run.is_onward())
            self.assertIsInstance(told[1], list)
            self.assertTrue(all(isinstance(row, tuple) for row in told[1]))
            most = min(most, len(told[1]) - 1)
        for many in range(most + 1):
            for rows in trials.programs(kind, many, callers == "onward"):
                if breaks_by_oracle(wish, kind, rows):
                    self.fail((kind.text(), wish, callers, rows, told))
        return len(told[1]) if told[0] == "broken" else None

    def test_all_programs_of_few_rows_and_two_words(self):
        found = {}
        for kind in samples_of_kinds():
            for wish in WISHES:
                for callers in CALLERS:
                    found[wish, callers, self.assert_fewest(kind, wish, callers, 3)] = True
        for wish in WISHES:
            for callers in CALLERS:
                self.assertIn((wish, callers, None), found)
                self.assertIn((wish, callers, 2 if wish == "complete" else 3), found)

    def test_all_programs_of_more_rows(self):
        for seed in (4, 9, 14, 23):
            kind = trials.small_kind(random.Random(seed), calls=(2, 2), fields=(1, 1))
            for wish in WISHES:
                for callers in CALLERS:
                    self.assert_fewest(kind, wish, callers, 5 if callers == "onward" else 4)

    def test_three_lines_count(self):
        """Only a mode of its own lets one bring the word, one take it out and one make the product."""
        kind = Kind([("a", "many", False)], [
            ("fork", "new", [1, 2, -1], [], ["a"]),
            ("add", "self", [0, -1, -1], [("add", "a")], []),
            ("strike", "self", [-1, 1, -1], [("strike", "a")], []),
            ("build", "last", [-1, -1, 2], [], []),
            ("share", "last", [-1, -1, 2], [], ["a"]),
        ], modes=3)
        told = judge(kind, "steady")
        self.assertEqual((told[0], len(told[1])), ("broken", 5))
        self.assertIs(broken("steady", kind, told[1]), True)
        self.assertEqual(judge(kind, "steady", "onward")[0], "holds")
        self.assertEqual(judge(kind.own("share", "a"), "steady")[0], "holds")

    def test_kinds_with_one_field_of_sort_one_are_steady(self):
        for callers in CALLERS:
            self.assertEqual(judge(samples.named(), "steady", callers), ("holds", []))

    def test_forks_are_all_programs(self):
        for kind in samples_of_kinds()[:12]:
            for wish in WISHES:
                self.assertEqual(judge(kind, wish), judge(kind, wish, "forks"))
                self.assertEqual(judge(kind=kind, wish=wish, callers="forks"), judge(kind, wish))
                if judge(kind, wish, "onward")[0] == "broken":
                    self.assertEqual(judge(kind, wish)[0], "broken")

    def test_equal_kinds_are_told_the_same(self):
        for kind in samples_of_kinds()[:12]:
            for wish in WISHES:
                for callers in CALLERS:
                    told = judge(kind, wish, callers)
                    twin = Kind.of_text(kind.text())
                    self.assertEqual(judge(twin, wish, callers), told)
                    spoil(judge(kind, wish, callers)[1])
                    self.assertEqual(judge(kind, wish, callers), told)
                    self.assertEqual(kind, twin)

    def test_bad_wishes_and_callers(self):
        kind = samples.shares()
        for thing in [*samples.any_objects(), "Own", "fork", ["forks"], ("own",)]:
            for callers in ("forks", thing):
                for ask in (judge, lambda k, w, c: is_closed(k, w, c, [])):
                    with self.assertRaises(BadWish) as caught:
                        ask(kind, thing, callers)
                    self.assertIs(caught.exception.wish, thing)
            for wish in WISHES:
                for ask in (judge, lambda k, w, c: is_closed(k, w, c, None)):
                    with self.assertRaises(BadCallers) as caught:
                        ask(kind, wish, thing)
                    self.assertIs(caught.exception.callers, thing)
        with self.assertRaises(BadCallers):
            judge(kind, "own", "own")
        with self.assertRaises(BadWish):
            judge(kind, "onward", "onward")


class Standings(unittest.TestCase):
    """[22], [23], [24]"""

    def test_the_first_standings(self):
        """Where no call is let in, there are no others."""
        kind = Kind([("n", "one", True), ("a", "many", True)], [("z", "last", [-1], [], ["a"])])
        for callers in CALLERS:
            self.assertEqual(sorted(judge(kind, "own", callers)[1]), [
                (0, (0, 0), (0, 0), 0, 0, None, ()), (1, (0, 0), (0, 0), 0, 0, None, (0,)),
            ])
            self.assertEqual(sorted(judge(kind, "complete", callers)[1]), [
                (0, None, (0, 0), 0, 0, None, ()), (1, None, (0, 0), 0, 0, None, (0,)),
            ])
            self.assertEqual(judge(kind, "steady", callers)[1], [(1, None, (0, 0), 0, 0, None, (0,))])

    def test_own_values_and_words_of_onward_callers(self):
        self.assertEqual(sorted(judge(samples.shares(), "own", "onward")[1]), [
            (0, (0, 0), (0, 0), 0, 0, None, (0,)), (0, (0, 1), (0, 0), 0, 0, None, (1,)),
        ])
        kind = Kind([("n", "one", False)], [("set", "self", [1, 0], [("set", "n")], [])], modes=2)
        self.assertEqual(sorted(judge(kind, "own", "onward")[1]), sorted(
            [(0, (0, 0), (0, 0), 0, 0, None, ())]
            + [(0, (mode, word), (mode, word), 0, 0, None, ()) for mode in (0, 1) for word in (1, 2)]
        ))

    def test_a_kept_product_of_onward_callers(self):
        kind = Kind([("a", "many", False)], [("build", "last", [0], [], ["a"])])
        self.assertEqual(sorted(judge(kind, "steady", "onward")[1], key=repr), [
            (0, 0, (0, 0), 0, 0, 0, (0,)), (0, None, (0, 0), 0, 0, None, (0,)),
        ])
        kind = Kind([("a", "many", False)], [
            ("add", "self", [0], [("fresh", "a"), ("add", "a")], []), ("build", "last", [0], [], ["a"]),
        ])
        self.assertEqual(sorted(judge(kind, "steady", "onward")[1], key=repr), sorted([
            (0, None, (0, 0), 0, 0, None, (0,)), (0, None, (0, 0), 0, 0, None, (1,)),
            (0, 0, (0, 0), 0, 0, 0, (0,)), (0, 1, (0, 0), 0, 0, 0, (1,)),
            (0, 0, (0, 0), 0, 0, 1, (0, 0)), (0, 0, (0, 0), 0, 0, 1, (1, 0)), (0, 1, (0, 0), 0, 0, 1, (1, 1)),
        ], key=repr))

    def test_where_three_lines_are(self):
        kind = Kind([("a", "many", False)], [("fork", "new", [1, -1], [], ["a"])], modes=2)
        self.assertEqual(sorted(judge(kind, "complete")[1], key=repr), sorted([
            (0, None, (0, 0), 0, 0, None, (0,)), (0, None, (0, 0), 0, (1, 0), None, (0,)),
            (0, None, (0, 0), (1, 0), 0, None, (0,)), (0, None, (0, 0), (1, 0), 1, None, (0,)),
            (0, None, (1, 0), 0, 0, None, (0,)), (0, None, (1, 0), 0, (0, 0), None, (0,)),
            (0, None, (1, 0), (0, 0), 0, None, (0,)), (0, None, (1, 0), (0, 0), 1, None, (0,)),
            # A further fork of the first maker is another maker in the same mode.
            (0, None, (0, 0), (1, 0), (1, 0), None, (0,)), (0, None, (1, 0), (0, 0), (1, 0), None, (0,)),
            (0, None, (1, 0), (1, 0), (0, 0), None, (0,)), (0, None, (1, 0), 0, (1, 0), None, (0,)),
            (0, None, (1, 0), (1, 0), 0, None, (0,)), (0, None, (1, 0), (1, 0), 1, None, (0,)),
            (0, None, (1, 0), (1, 0), (1, 0), None, (0,)),
        ], key=repr))

    def test_by_real_makers(self):
        found = {}
        parted = [("fork", "new", [0], [], []), ("fresh", "self", [0], [("fresh", "a")], []), *samples.SHARES_CALLS]
        kinds = [Kind(samples.SHARES_FIELDS, parted), Kind(samples.SHARES_FIELDS, parted).own("build", "a")]
        kinds += [trials.role_kind(random.Random(seed)) for seed in range(40)]
        for kind in [*samples_of_kinds(), *kinds]:
            for wish in WISHES:
                for callers in CALLERS:
                    verdict, told = judge(kind, wish, callers)
                    if verdict == "holds" and len(told) > 120:
                        continue
                    expected = standings_oracle.judged(kind, wish, callers)
                    found[wish, callers, verdict] = True
                    if verdict == "broken":
                        self.assertEqual(expected, (verdict, len(told) - 1), (kind.text(), wish, callers))
                    else:
                        self.assertEqual(len(told), len(set(told)))
                        self.assertEqual(expected, (verdict, set(told)), (kind.text(), wish, callers))
        self.assertEqual(len(found), 12)

    def test_kinds_of_thousands_of_standings(self):
        kind = Kind([("a", "many", False)], [
            ("p", "new", [1, 1, 2], [], ["a"]),
            ("q", "new", [1, -1, 2], [("add", "a")], []),
            ("r", "last", [2, 1, -1], [("fresh", "a"), ("add", "a")], ["a"]),
            ("s", "new", [0, 1, -1], [("fresh", "a"), ("add", "a")], ["a"]),
            ("t", "last", [0, -1, -1], [], ["a"]),
        ], modes=3)
        verdict, told = judge(kind, "steady")
        self.assertEqual((verdict, len(told), len(set(told))), ("holds", 2606, 2606))
        self.assertIs(is_closed(kind, "steady", "forks", told), True)
        self.assertIs(is_closed(kind, "steady", "forks", told[1:]), False)


class IsClosed(unittest.TestCase):
    """[25]"""

    def kinds_that_hold(self):
        for kind in samples_of_kinds():
            for wish in WISHES:
                for callers in CALLERS:
                    verdict, told = judge(kind, wish, callers)
                    if verdict == "holds" and 0 < len(told) < 40:
                        yield kind, wish, callers, told

    def test_what_judge_tells_is_closed(self):
        for kind, wish, callers, told in self.kinds_that_hold():
            for standings in (told, told[::-1], told + told, tuple(told), listed(told), tupled(told)):
                self.assertIs(is_closed(kind, wish, callers, standings), True)
            self.assertIs(is_closed(kind=kind, wish=wish, callers=callers, standings=told), True)

    def test_other_items_do_not_matter(self):
        for kind, wish, callers, told in self.kinds_that_hold():
            self.assertIs(is_closed(kind, wish, callers, [*samples.any_objects(), *told, [[[1]]], (None,) * 7]), True)

    def test_without_one_it_is_not_closed(self):
        for kind, wish, callers, told in self.kinds_that_hold():
            for at in range(len(told)):
                self.assertIs(is_closed(kind, wish, callers, told[:at] + told[at + 1:]), False)
            self.assertIs(is_closed(kind, wish, callers, []), False)

    def test_with_one_bent_it_is_not_closed(self):
        rng = random.Random(1)
        for kind, wish, callers, told in self.kinds_that_hold():
            for at in range(len(told)):
                for bent in bends(told[at]):
                    if rng.random() < 0.12:
                        standings = [*told[:at], bent, *told[at + 1:]]
                        self.assertIs(is_closed(kind, wish, callers, standings), False, bent)

    def test_true_and_false_are_not_integers(self):
        kind = Kind([("a", "many", False)], [("z", "last", [-1], [], [])])
        self.assertIs(is_closed(kind, "own", "forks", [(0, (0, 0), (0, 0), 0, 0, None, (0,))]), True)
        for bent in (
            (False, (0, 0), (0, 0), 0, 0, None, (0,)), (0, (False, 0), (0, 0), 0, 0, None, (0,)),
            (0, (0, 0), (0, 0), False, 0, None, (0,)), (0, (0, 0), (0, 0), 0, 0, None, (False,)),
            (0, (0, 0), (0, 0), 0, 0, False, (0,)), (0, (0, 0), (0, 0), 0, 0, None), "0000000",
        ):
            self.assertIs(is_closed(kind, "own", "forks", [bent]), False)

    def test_nothing_is_closed_where_the_wish_is_broken(self):
        for kind in samples_of_kinds():
            for wish in WISHES:
                if judge(kind, wish)[0] == "broken":
                    self.assertIs(is_closed(kind, wish, "forks", judge(kind, wish)[1]), False)
                    holding = judge(samples.hands_new(()), "own")[1]
                    self.assertIs(is_closed(kind, wish, "forks", holding), False)
                    self.assertIs(is_closed(kind, wish, "forks", []), False)

    def test_no_standings_are_needed_where_there_are_none(self):
        for callers in CALLERS:
            self.assertIs(is_closed(samples.named(), "steady", callers, []), True)
            self.assertIs(is_closed(samples.named(), "steady", callers, ()), True)
            self.assertIs(is_closed(samples.named(), "steady", callers, samples.any_objects()), True)

    def test_any_objects(self):
        for kind in (samples.hands_new(()), samples.named()):
            for thing in samples.any_objects():
                closed = kind == samples.named() and isinstance(thing, (list, tuple))
                self.assertIs(is_closed(kind, "steady", "forks", thing), closed)
                self.assertIs(is_closed(kind, "own", "onward", thing), False)

    def test_what_is_passed_stays(self):
        kind = samples.hands_new(())
        told = listed(judge(kind, "own")[1])
        before = repr(told)
        is_closed(kind, "own", "forks", told)
        self.assertEqual(repr(told), before)


def bends(standing):
    """The standing with one number or None in it changed, at every place."""
    for at, part in enumerate(standing):
        if isinstance(part, tuple):
            for bent in bends(part):
                yield (*standing[:at], bent, *standing[at + 1:])
            yield (*standing[:at], (*part, 0), *standing[at + 1:])
        else:
            for bent in (None, 9, -1, "0", [part], bool(part)):
                if bent is not part:
                    yield (*standing[:at], bent, *standing[at + 1:])

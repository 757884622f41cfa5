import random
import unittest

import exact
import samples
import trials
from makerlines.errors import BadCallers, BadKind, BadPlace, UnknownCall
from makerlines.kinds import Kind
from makerlines.likes import alike, either, is_idle, styles
from makerlines.runs import Run
from test_kinds import spoil

CALLERS = ("onward", "forks")
MAKE = ("make",)


def pairs_of_kinds(many):
    for seed in range(many):
        rng = random.Random(seed)
        kind = trials.small_kind(rng, calls=(2, 3), fields=(1, 2))
        yield kind, trials.twin_of(rng, kind)


def changed(kind, which, **parts):
    """The kind in which these parts of this call are other ones."""
    calls = []
    for call in kind.calls():
        told = dict(zip(("name", "hand", "moves", "deeds", "same"), call))
        calls.append(tuple({**told, **parts}.values()) if call[0] == which else call)
    return Kind(kind.fields(), calls, modes=kind.modes)


class Alike(unittest.TestCase):
    """[27]"""

    def assert_fewest(self, one, other, callers, most):
        """The program told shows unlike things, and no shorter one of at most this many rows does."""
        told = alike(one, other, callers)
        if told[0] == "rows":
            rows = told[1]
            self.assertNotEqual(trials.shown(one, rows), trials.shown(other, rows))
            self.assertTrue(callers == "forks" or Run(one, rows).is_onward())
            self.assertTrue(isinstance(rows, list) and all(isinstance(row, tuple) for row in rows))
            most = min(most, len(rows) - 1)
        else:
            self.assertEqual(told, ("alike",))
        for many in range(most + 1):
            for rows in trials.programs(one, many, callers == "onward"):
                if trials.shown(one, rows) != trials.shown(other, rows):
                    self.fail((one.text(), other.text(), callers, rows, told))
        return len(told[1]) if told[0] == "rows" else None

    def test_all_programs_of_few_rows_and_two_words(self):
        found = {}
        for one, other in pairs_of_kinds(150):
            for callers in CALLERS:
                found[callers, self.assert_fewest(one, other, callers, 3)] = True
        for callers in CALLERS:
            for many in (None, 2, 3, 4):
                self.assertIn((callers, many), found)

    def test_all_programs_of_more_rows(self):
        for one, other in list(pairs_of_kinds(24))[::4]:
            for callers in CALLERS:
                self.assert_fewest(one, other, callers, 5 if callers == "onward" else 4)

    def assert_as_exact(self, one, other, callers, most, limit):
        """What is told is what a search through all programs tells, as far as it gets; the number of calls or None."""
        told = alike(one, other, callers)
        calls = len(told[1]) - 1 if told[0] == "rows" else None
        fewest, is_found = exact.fewest_calls(one, other, callers, most, limit=limit)
        if is_found:
            self.assertEqual(calls, fewest, (one.text(), other.text(), callers))
            self.assertNotEqual(trials.shown(one, told[1]), trials.shown(other, told[1]))
        else:
            self.assertTrue(calls is None or calls >= fewest, (one.text(), other.text(), callers))
        return calls

    def test_programs_of_makers_with_parts_of_their_own(self):
        found = {}
        for seed in range(60):
            rng = random.Random(seed)
            one = trials.role_kind(rng)
            other = trials.twin_of(rng, one)
            for callers in CALLERS:
                calls = self.assert_as_exact(one, other, callers, 6, 600)
                found[callers, calls] = True
        for callers in CALLERS:
            for calls in (None, 2, 3, 4):
                self.assertIn((callers, calls), found)

    def test_programs_in_which_modes_alone_count(self):
        found = {}
        for seed in range(250):
            rng = random.Random(seed)
            one = trials.plain_kind(rng)
            other = trials.twin_of(rng, one)
            for callers in CALLERS:
                calls = self.assert_as_exact(one, other, callers, 5, 400)
                found[callers, calls] = True
        for calls in (None, 1, 2, 3):
            self.assertIn(("forks", calls), found)

    def test_a_call_on_the_same_maker_in_one_kind_alone(self):
        calls = [("step", "self", [1, -1], [], []), ("end", "last", [0, -1], [], [])]
        one = Kind([("a", "one", False)], [("fork", "self", [0, -1], [], []), *calls], modes=2)
        other = Kind([("a", "one", False)], [("fork", "new", [0, -1], [], []), *calls], modes=2)
        for pair in ((one, other), (other, one)):
            self.assertEqual(self.assert_fewest(*pair, "forks", 4), 4)
            self.assertEqual(alike(*pair, "onward"), ("alike",))

    def test_contents_that_differ_by_fewer_rows_than_what_is_let_in(self):
        calls = [
            ("add", "self", [0, 0, 0], [("add", "a")], []), ("on", "self", [1, 2, 2], [], []),
            ("build", "last", [0, 1, 2], [], ["a"]),
        ]
        one = Kind([("a", "many", False)], calls, modes=3)
        other = changed(one.own("build", "a"), "on", moves=[1, 2, -1])
        for callers in CALLERS:
            self.assertEqual(alike(one, changed(one, "on", moves=[1, 2, -1]), callers),
                             ("rows", [MAKE, ("on", 0), ("on", 1), ("on", 2)]))
            told = alike(one, other, callers)
            self.assertEqual((told[0], len(told[1])), ("rows", 3))
            self.assertNotEqual(trials.shown(one, told[1]), trials.shown(other, told[1]))
            late = changed(other, "on", moves=[1, -1, -1])
            self.assertEqual(self.assert_fewest(one, late, callers, 3), 3)
            early = changed(other, "on", moves=[-1, -1, -1])
            self.assertEqual(alike(one, early, callers), ("rows", [MAKE, ("on", 0)]))

    def test_a_kind_is_like_itself(self):
        for kind in (samples.shares(), samples.hands_new(), samples.named(), samples.rich()):
            for callers in CALLERS:
                self.assertEqual(alike(kind, Kind.of_text(kind.text()), callers), ("alike",))

    def test_unlike_by_what_is_let_in(self):
        one = Kind([("a", "one", False)], [("on", "self", [1, 1], [], []), ("z", "last", [0, 0], [], [])], modes=2)
        other = changed(one, "z", moves=[0, -1])
        for callers in CALLERS:
            self.assertEqual(alike(one, other, callers), ("rows", [MAKE, ("on", 0), ("z", 1)]))
            self.assertEqual(alike(one, changed(one, "on", moves=[0, 1]), callers), ("alike",))
            # Modes that cannot be come to, and the number of modes, are not shown.
            wide = Kind(one.fields(), [(name, hand, [0, 3, 3, -1], deeds, same)
                                       for name, hand, moves, deeds, same in one.calls()], modes=4)
            self.assertEqual(alike(one, wide, callers), ("alike",))

    def test_what_is_kept_of_modes_by_forks_alone(self):
        """Whether a maker is changed or left is shown by a call on the old one."""
        one = Kind([("a", "one", False)], [("on", "self", [1, -1], [], []), ("z", "last", [-1, 1], [], [])], modes=2)
        other = changed(one, "on", hand="new")
        self.assertEqual(alike(one, other, "onward"), ("alike",))
        self.assertEqual(self.assert_fewest(one, other, "forks", 4), 3)

    def test_contents_when_made_and_at_the_end(self):
        one = samples.shares()
        for callers in CALLERS:
            self.assertEqual(self.assert_fewest(one, one.own("build", "a"), callers, 4), 3)
            self.assertEqual(self.assert_fewest(one, changed(one, "add", deeds=[("strike", "a")]), callers, 4), 3)
        fresh = changed(one, "add", deeds=[("fresh", "a"), ("add", "a")])
        self.assertEqual(self.assert_fewest(one, fresh, "onward", 4), 3)
        self.assertEqual(self.assert_fewest(fresh, one.own("build", "a"), "forks", 4), None)

    def test_a_product_that_shares_a_fresh_list_in_one_kind(self):
        one = Kind([("a", "many", False)], [
            ("strike", "self", [0], [("strike", "a")], []),
            ("build", "last", [0], [("fresh", "a"), ("add", "a")], ["a"]),
        ])
        for pair in ((one, one.own("build", "a")), (one.own("build", "a"), one)):
            for callers in CALLERS:
                self.assertEqual(self.assert_fewest(*pair, callers, 4), 3)

    def test_a_row_aside_counts(self):
        """In one kind, and not in the other one, a fork is the maker itself, which then has a list of its own."""
        calls = [
            ("fork", "self", [0, -1, -1], [], []),
            ("part", "new", [1, -1, -1], [], ["a"]),
            ("fresh", "self", [0, -1, -1], [("fresh", "a")], []),
            ("add", "self", [0, -1, -1], [("add", "a")], []),
            ("build", "last", [-1, 1, -1], [], ["a"]),
        ]
        one = Kind([("a", "many", False)], calls, modes=3)
        other = Kind([("a", "many", False)], [("fork", "new", [0, -1, -1], [], ["a"]), *calls[1:]], modes=3)
        told = alike(one, other)
        self.assertEqual((told[0], len(told[1])), ("rows", 6))
        self.assertNotEqual(trials.shown(one, told[1]), trials.shown(other, told[1]))
        self.assertEqual(alike(one, other, "onward"), ("alike",))

    def assert_rows(self, one, other, fewest):
        """Both ways, just as many rows tell these kinds apart, and all programs of fewer rows are alike."""
        for pair in ((one, other), (other, one)):
            told = alike(*pair)
            self.assertEqual((told[0], len(told[1])), ("rows", fewest))
            self.assertNotEqual(trials.shown(one, told[1]), trials.shown(other, told[1]))
            self.assertEqual(exact.fewest_calls(*pair, "forks", fewest - 1, limit=20000), (fewest - 1, True))

    def test_a_row_that_counts_by_a_fresh_list_alone(self):
        """It is handed by the first row, and gives it a list of its own in one kind."""
        calls = [
            ("part", "new", [1, -1, -1], [], ["a"]), ("bring", "self", [-1, 1, -1], [("add", "a")], []),
            ("go", "self", [2, -1, -1], [], []), ("renew", "self", [-1, -1, 2], [("fresh", "a")], []),
            ("end", "last", [-1, -1, 2], [], []),
        ]
        one, other = [
            Kind([("a", "many", False)], [*calls, ("pass", hand, [-1, -1, 2], [], same)], modes=3)
            for hand, same in (("self", []), ("new", ["a"]))
        ]
        self.assert_rows(one, other, 7)

    def test_a_row_handed_by_one_that_is_parted_in_one_kind(self):
        calls = [
            ("part", "new", [1, -1, -1], [], ["a"]), ("renew", "self", [-1, 1, -1], [("fresh", "a")], []),
            ("go", "new", [-1, 2, -1], [], ["a"]), ("bring", "self", [-1, -1, 2], [("add", "a")], []),
            ("end", "last", [0, -1, -1], [], []),
        ]
        one = Kind([("a", "many", False)], calls, modes=3)
        self.assert_rows(one, changed(one, "renew", deeds=[]), 6)
        self.assert_rows(one, changed(one, "go", same=[]), 5)

    def test_a_word_that_is_left_in_a_list_given_up(self):
        one = Kind([("a", "many", False)], [
            ("twin", "new", [0], [], ["a"]), ("build", "last", [0], [], []),
            ("put", "self", [0], [("add", "a"), ("fresh", "a"), ("clear", "a")], []),
        ])
        self.assert_rows(one, one.own("twin", "a"), 4)

    def test_modes_with_other_numbers(self):
        for seed in range(150):
            rng = random.Random(seed)
            one = trials.role_kind(rng)
            other = trials.twin_of(rng, one)
            numbers = [0, *rng.sample(range(1, one.modes), one.modes - 1), -1]
            renumbered = Kind(other.fields(), [
                (name, hand, [numbers[moves[numbers.index(mode)]] for mode in range(one.modes)], deeds, same)
                for name, hand, moves, deeds, same in other.calls()
            ], modes=one.modes)
            for callers in CALLERS:
                self.assertEqual(alike(other, renumbered, callers), ("alike",))
                told, found = alike(one, other, callers), alike(one, renumbered, callers)
                self.assertEqual([len(x) for x in told], [len(x) for x in found])
                self.assertEqual(len(told[-1]), len(found[-1]))

    def test_many_rows_that_count(self):
        """Kinds that are told apart by many rows, with as many in view at once as ever count."""
        self.assert_rows(samples.parts("self"), samples.parts("new"), 9)
        self.assert_rows(samples.parts_late("self"), samples.parts_late("new"), 8)
        self.assert_rows(samples.goes(["a"]), samples.goes([]), 7)
        self.assertEqual(alike(samples.parts("self"), samples.parts("new"), "onward"), ("alike",))

    def test_many_rows_that_count_but_for_a_call(self):
        """Without one of the calls that it takes, nothing tells these kinds apart."""
        for one, other, names in (
            (samples.parts("self"), samples.parts("new"), ("part", "bring", "take", "renew", "pass", "end")),
            (samples.parts_late("self"), samples.parts_late("new"), ("end", "part", "bring", "renew", "pass")),
            (samples.goes(["a"]), samples.goes([]), ("hand", "share", "go", "bring", "take", "end")),
        ):
            for name in names:
                pair = [Kind(kind.fields(), [call for call in kind.calls() if call[0] != name], modes=4)
                        for kind in (one, other)]
                self.assertEqual(alike(*pair), ("alike",), name)
                self.assertEqual(alike(*pair[::-1]), ("alike",), name)

    def test_forks_if_callers_are_not_told(self):
        for one, other in pairs_of_kinds(12):
            self.assertEqual(alike(one, other), alike(one=one, other=other, callers="forks"))

    def test_equal_kinds_are_told_the_same_and_stay(self):
        for one, other in pairs_of_kinds(20):
            for callers in CALLERS:
                told = alike(one, other, callers)
                texts = (one.text(), other.text())
                self.assertEqual(alike(Kind.of_text(texts[0]), Kind.of_text(texts[1]), callers), told)
                spoil(alike(one, other, callers))
                self.assertEqual(alike(one, other, callers), told)
                self.assertEqual((one.text(), other.text()), texts)

    def test_bad_kinds(self):
        one = samples.rich()
        fields, calls = one.fields(), one.calls()
        others = [
            samples.shares(), samples.named(),
            Kind(fields, calls[:-1], modes=4), Kind(fields, calls[::-1], modes=4),
            Kind([fields[0], fields[1], ("parts", "many", False)], calls, modes=4),
            changed(one, "label", name="other"), changed(one, "label", deeds=[("clear", "name")]),
            changed(one, "wipe", deeds=[("add", "tags")]), changed(one, "label", hand="last"),
            changed(one, "finish", hand="new"),
        ]
        for thing in [*others, *samples.any_objects()]:
            if isinstance(thing, Kind) and thing == one:
                continue
            for callers in ("forks", "onward", None, thing):
                with self.assertRaises(BadKind) as caught:
                    alike(one, thing, callers)
                self.assertIs(caught.exception.kind, thing)

    def test_bad_callers(self):
        one = samples.shares()
        for thing in [*samples.any_objects(), "fork", "steady", ["forks"]]:
            for other in (one, one.own("build", "a")):
                with self.assertRaises(BadCallers) as caught:
                    alike(one, other, thing)
                self.assertIs(caught.exception.callers, thing)


class IsIdle(unittest.TestCase):
    """[28]"""

    def calls_of_kinds(self, many):
        for seed in range(many):
            kind = trials.small_kind(random.Random(seed), calls=(2, 3))
            for name in kind:
                if kind[name][1] != "last":
                    yield kind, name

    def differs(self, kind, name, callers, most):
        for many in range(most + 1):
            for rows in trials.programs(kind, many, callers == "onward"):
                if trials.shown_of_others(kind, rows, name) != trials.shown_but_idle(kind, rows, name):
                    return True
        return False

    def test_all_programs_of_few_rows_and_two_words(self):
        found = {}
        for kind, name in self.calls_of_kinds(24):
            for callers in CALLERS:
                told = is_idle(kind, name, callers)
                self.assertIs(told, not self.differs(kind, name, callers, 4), (kind.text(), name, callers))
                found[callers, told] = True
        self.assertEqual(len(found), 4)

    def test_programs_of_makers_with_parts_of_their_own(self):
        found = {}
        for seed in range(30):
            kind = trials.role_kind(random.Random(seed))
            for name in kind:
                if kind[name][1] != "last":
                    for callers in CALLERS:
                        told = is_idle(kind, name, callers)
                        fewest, is_found = exact.fewest_calls(kind, kind, callers, 5, idle=name, limit=200)
                        found[told, is_found] = True
                        self.assertFalse(told and is_found, (kind.text(), name, callers, fewest))
        self.assertIn((True, False), found)
        self.assertIn((False, True), found)

    def test_a_call_without_deeds(self):
        kind = Kind([("a", "many", False)], [
            ("none", "self", [0], [], []), ("copy", "new", [0], [], []), ("twin", "new", [0], [], ["a"]),
            ("add", "self", [0], [("add", "a")], []), ("z", "last", [0], [], []),
        ])
        for callers in CALLERS:
            self.assertIs(is_idle(kind, "none", callers), True)
            self.assertIs(is_idle(kind, "twin", callers), True)
            self.assertIs(is_idle(kind, "add", callers), False)
        self.assertIs(is_idle(kind, "copy", "onward"), True)
        self.assertIs(is_idle(kind, "copy"), False)

    def test_refused_calls(self):
        calls = [("on", "self", [1, 1], [], []), ("z", "last", [-1, 1], [], [])]
        kind = Kind([("a", "one", False)], [*calls, ("half", "self", [0, -1], [], [])], modes=2)
        for callers in CALLERS:
            # What is called on a row that was refused shows it.
            self.assertIs(is_idle(kind, "half", callers), False)
            whole = Kind(kind.fields(), [*calls, ("half", "self", [0, 1], [], [])], modes=2)
            self.assertIs(is_idle(whole, "half", callers), True)
            alone = Kind(kind.fields(), [("half", "self", [0, -1], [], [])], modes=2)
            self.assertIs(is_idle(alone, "half", callers), True)
            self.assertIs(is_idle(whole, "on", callers), False)

    def test_modes_that_come_to_the_same(self):
        kind = Kind([("a", "one", False)], [
            ("on", "self", [1, 0], [], []), ("z", "last", [0, 0], [], []),
        ], modes=2)
        self.assertIs(is_idle(kind, "on"), True)

    def test_deeds_that_nobody_sees(self):
        kind = Kind([("a", "many", False)], [
            ("add", "self", [0], [("add", "a"), ("clear", "a")], []), ("z", "last", [0], [], ["a"]),
        ])
        self.assertIs(is_idle(kind, "add"), True)
        kind = Kind([("a", "many", False)], [
            ("fresh", "self", [0], [("fresh", "a")], []), ("z", "last", [0], [], ["a"]),
            ("add", "self", [0], [("add", "a")], []),
        ])
        self.assertIs(is_idle(kind, "fresh"), False)
        self.assertIs(is_idle(kind.own("z", "a"), "fresh"), True)

    def test_forks_if_callers_are_not_told(self):
        kind = Kind([("a", "many", False)], [("copy", "new", [0], [("add", "a")], []), ("z", "last", [0], [], [])])
        for seed_kind, name in [(kind, "copy"), *self.calls_of_kinds(6)]:
            self.assertIs(is_idle(kind=seed_kind, name=name), is_idle(seed_kind, name, callers="forks"))

    def test_errors_in_order(self):
        kind = samples.shares()
        for thing in [*samples.any_objects(), "Add", "build "]:
            for callers in ("forks", thing):
                with self.assertRaises(UnknownCall) as caught:
                    is_idle(kind, thing, callers)
                self.assertIs(caught.exception.name, thing)
                with self.assertRaises(BadPlace) as caught:
                    is_idle(kind, "build", callers)
                self.assertEqual(caught.exception.place, "build")
            with self.assertRaises(BadCallers) as caught:
                is_idle(kind, "add", thing)
            self.assertIs(caught.exception.callers, thing)


class Styles(unittest.TestCase):
    """[29]"""

    def fewest(self, kind, most):
        for many in range(1, most + 1):
            for row in trials.rows_of_calls(kind, many, "xy"):
                if trials.as_chain(kind, row) != trials.as_statements(kind, row):
                    return many
        return None

    def test_all_rows_of_few_calls(self):
        found = {}
        for seed in range(120):
            kind = trials.small_kind(random.Random(seed), calls=(2, 4), modes=(1, 3))
            told = styles(kind)
            fewest = self.fewest(kind, 3)
            found[fewest] = True
            if told == ("alike",):
                self.assertIsNone(fewest, kind.text())
                continue
            self.assertEqual((told[0], len(told)), ("calls", 2))
            row = told[1]
            self.assertNotEqual(trials.as_chain(kind, row), trials.as_statements(kind, row))
            self.assertTrue(len(row) == fewest or (fewest is None and len(row) > 3), kind.text())
            self.assertEqual([kind[item[0]][1] == "last" for item in row], [False] * (len(row) - 1) + [True])
            self.assertTrue(isinstance(row, list) and all(isinstance(item, tuple) for item in row))
        self.assertEqual(set(found), {None, 2, 3})

    def test_what_is_refused_in_one_way(self):
        kind = Kind([("a", "one", False)], [
            ("on", "new", [1, -1], [], []), ("z", "last", [0, -1], [], []),
        ], modes=2)
        self.assertEqual(styles(kind), ("calls", [("on",), ("z",)]))
        kind = Kind([("a", "one", False)], [
            ("on", "new", [1, -1], [], []), ("z", "last", [0, 0], [], []),
        ], modes=2)
        self.assertEqual(styles(kind), ("calls", [("on",), ("on",), ("z",)]))

    def test_self_calls_are_alike(self):
        for kind in (samples.shares(), samples.named()):
            self.assertEqual(styles(kind=kind), ("alike",))

    def test_no_last_call(self):
        self.assertEqual(styles(Kind([("a", "one", False)], [("p", "new", [0], [("set", "a")], [])])), ("alike",))

    def test_equal_kinds_are_told_the_same(self):
        for seed in range(20):
            kind = trials.small_kind(random.Random(seed))
            told = styles(kind)
            spoil(styles(kind))
            self.assertEqual(styles(Kind.of_text(kind.text())), told)


class Either(unittest.TestCase):
    """[30]"""

    def fewest(self, kind, one, other, most):
        for many in range(3, most + 1):
            for row in trials.rows_of_calls(kind, many):
                for at in range(many - 1):
                    if (row[at][0], row[at + 1][0]) in ((one, other), (other, one)):
                        exchanged = [*row[:at], row[at + 1], row[at], *row[at + 2:]]
                        if trials.as_chain(kind, row) != trials.as_chain(kind, exchanged):
                            return many
        return None

    def test_all_rows_of_few_calls(self):
        found = {}
        for seed in range(80):
            kind = trials.small_kind(random.Random(seed), calls=(2, 3), modes=(1, 3))
            going_on = [name for name in kind if kind[name][1] != "last"]
            for one in going_on:
                for other in going_on:
                    told = either(kind, one, other)
                    fewest = self.fewest(kind, one, other, 4)
                    found[fewest] = True
                    if told == ("alike",):
                        self.assertIsNone(fewest, (kind.text(), one, other))
                    else:
                        self.assert_exchange(kind, told, one, other)
                        self.assertTrue(len(told[1]) == fewest or (fewest is None and len(told[1]) > 4))
        self.assertEqual(set(found), {None, 3, 4})

    def assert_exchange(self, kind, told, one, other):
        verdict, row, exchanged = told
        self.assertEqual((verdict, len(row)), ("calls", len(exchanged)))
        self.assertNotEqual(trials.as_chain(kind, row), trials.as_chain(kind, exchanged))
        at = next(k for k in range(len(row)) if row[k] != exchanged[k])
        self.assertEqual([*row[:at], row[at + 1], row[at], *row[at + 2:]], exchanged)
        self.assertEqual({row[at][0], row[at + 1][0]}, {one, other})
        self.assertEqual([kind[item[0]][1] == "last" for item in row], [False] * (len(row) - 1) + [True])

    def test_the_order_in_a_list_counts(self):
        kind = Kind(samples.SHARES_FIELDS, samples.SHARES_CALLS)
        verdict, row, exchanged = either(kind, "add", "add")
        self.assertEqual((verdict, len(row)), ("calls", 3))
        self.assertNotEqual(row[0][1], row[1][1])
        self.assert_exchange(kind, (verdict, row, exchanged), "add", "add")

    def test_one_word_for_both_counts(self):
        kind = Kind(samples.SHARES_FIELDS, [*samples.SHARES_CALLS, ("strike", "self", [0], [("strike", "a")], [])])
        for names in (("add", "strike"), ("strike", "add")):
            told = either(kind, *names)
            self.assertEqual(len(told[1]), 3)
            self.assert_exchange(kind, told, *names)
        self.assertEqual(either(kind, "strike", "strike"), ("alike",))

    def test_a_clear_on_either_side_of_an_add(self):
        kind = Kind(samples.SHARES_FIELDS, [*samples.SHARES_CALLS, ("empty", "self", [0], [("clear", "a")], [])])
        for names in (("add", "empty"), ("empty", "add")):
            told = either(kind, *names)
            self.assertEqual(len(told[1]), 3)
            self.assert_exchange(kind, told, *names)
        self.assertEqual(either(kind, "empty", "empty"), ("alike",))
        # A last call that clears, or only clears in between, leaves nothing to be seen.
        shut = changed(kind, "build", deeds=[("clear", "a")])
        self.assertEqual(either(shut, "add", "empty"), ("alike",))
        self.assertEqual(either(shut, "add", "add"), ("alike",))
        whole = changed(kind, "add", deeds=[("clear", "a"), ("add", "a")])
        self.assertEqual(len(either(whole, "add", "add")[1]), 3)
        self.assertEqual(either(changed(whole, "empty", deeds=[]), "add", "empty"), ("alike",))

    def test_unlike_fields_are_alike(self):
        kind = Kind([("a", "one", False), ("b", "many", False)], [
            ("set", "self", [0], [("set", "a")], []), ("add", "new", [0], [("add", "b")], []),
            ("z", "last", [0], [], []),
        ])
        self.assertEqual(either(kind=kind, one="set", other="add"), ("alike",))
        self.assertEqual(either(kind, "set", "set")[0], "calls")

    def test_what_is_refused_in_one_order(self):
        kind = Kind([("a", "one", False)], [
            ("on", "self", [1, -1], [], []), ("two", "self", [0, 1], [], []), ("off", "self", [0, 0], [], []),
            ("z", "last", [0, 0], [], []),
        ], modes=2)
        self.assertEqual(either(kind, "on", "two"), ("alike",))
        self.assertEqual(len(either(kind, "on", "off")[1]), 4)
        self.assert_exchange(kind, either(kind, "on", "off"), "on", "off")

    def test_no_last_call(self):
        kind = Kind([("a", "one", False)], [("p", "self", [0], [("set", "a")], [])])
        self.assertEqual(either(kind, "p", "p"), ("alike",))

    def test_equal_kinds_are_told_the_same(self):
        kind = samples.rich()
        told = either(kind, "label", "tag")
        self.assertEqual(told[0], "calls")
        spoil(either(kind, "label", "tag"))
        self.assertEqual(either(samples.rich(), "label", "tag"), told)

    def test_errors_in_order(self):
        kind = samples.shares()
        for thing in [*samples.any_objects(), "Add"]:
            for other in ("add", "build", thing, None):
                with self.assertRaises(UnknownCall) as caught:
                    either(kind, thing, other)
                self.assertIs(caught.exception.name, thing)
                with self.assertRaises(BadPlace) as caught:
                    either(kind, "build", other)
                self.assertEqual(caught.exception.place, "build")
            with self.assertRaises(UnknownCall) as caught:
                either(kind, "add", thing)
            self.assertIs(caught.exception.name, thing)
        with self.assertRaises(BadPlace) as caught:
            either(kind, "add", "build")
        self.assertEqual(caught.exception.place, "build")

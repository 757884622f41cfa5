import itertools
import random
import unittest

import samples
import trials
from makerlines.errors import BadRule
from makerlines.kinds import Kind
from makerlines.orders import freest, is_good
from makerlines.runs import Run
from test_kinds import listed, spoil, tupled


def keeps(rule, names):
    if rule[0] == "once":
        return names.count(rule[1]) <= 1
    behind = [rule[1] in names[:at] for at, name in enumerate(names) if name == rule[2]]
    return all(behind) if rule[0] == "ahead" else not any(behind)


def good_by_runs(kind, rules, names):
    """[31], with all words of two."""
    lasts = [kind[name][1] == "last" for name in names]
    if lasts != [False] * (len(names) - 1) + [True] or not all(keeps(rule, names) for rule in rules):
        return False
    choices = [list(trials.items(kind, [name])) for name in names]
    for row in itertools.product(*choices):
        run = Run(kind, [("make",), *[(item[0], k, *item[1:]) for k, item in enumerate(row)]])
        if None in run.things():
            return False
        contents = run.made(len(row))
        if any(need and not content for (name, sort, need), content in zip(kind.fields(), contents)):
            return False
    return True


def is_taken(machine, names):
    """Whether a machine goes through all these names to its end."""
    state = 0 if machine else -1
    for name in names:
        if state == -1 or name not in dict(machine[state]):
            return False
        state = dict(machine[state])[name]
    return bool(names) and bool(machine) and state == -1


def random_rules(rng, kind):
    rules = []
    for _ in range(rng.choice([0, 1, 2, 3])):
        sort = rng.choice(["ahead", "bar", "once"])
        rules.append((sort, *rng.sample(kind.names(), 1 if sort == "once" else 2)))
    return rules


def unlike_states(machine):
    """All pairs of states with unlike good rests."""
    unlike = set()
    while True:
        more = set()
        for one, other in itertools.permutations(range(len(machine)), 2):
            if [name for name, to in machine[one]] != [name for name, to in machine[other]]:
                more.add((one, other))
            for (name, to), (name_other, to_other) in zip(machine[one], machine[other]):
                if (to, to_other) in unlike or (to != to_other and -1 in (to, to_other)):
                    more.add((one, other))
        if more <= unlike:
            return unlike
        unlike |= more


class Freest(unittest.TestCase):
    """[31], [32]"""

    def kinds_and_rules(self, many):
        yield samples.named(), []
        yield samples.named(), [("once", "set")]
        for seed in range(many):
            rng = random.Random(seed)
            kind = trials.small_kind(rng, calls=(2, 4), fields=(1, 2), modes=(1, 3))
            yield kind, random_rules(rng, kind)

    def test_all_rows_of_few_names(self):
        found = {}
        for kind, rules in self.kinds_and_rules(120):
            machine = freest(kind, rules)
            for many in range(6 if len(kind) < 4 else 5):
                for names in itertools.product(kind.names(), repeat=many):
                    good = good_by_runs(kind, rules, names)
                    found[good] = True
                    self.assertIs(is_good(kind, rules, names), good, (kind.text(), rules, names))
                    self.assertIs(is_taken(machine, names), good, (kind.text(), rules, names))
        self.assertEqual(len(found), 2)

    def test_least_and_numbered_as_they_are_named(self):
        sizes = {}
        for kind, rules in self.kinds_and_rules(200):
            machine = freest(kind, rules)
            sizes[len(machine)] = True
            self.assertEqual(len(unlike_states(machine)), len(machine) * (len(machine) - 1))
            named = [0] if machine else []
            for pairs in machine:
                self.assertTrue(pairs)
                names = [name for name, to in pairs]
                self.assertEqual(names, [name for name in kind if name in names])
                for name, to in pairs:
                    self.assertEqual(to == -1, kind[name][1] == "last")
                    if to != -1 and to not in named:
                        named.append(to)
            self.assertEqual(named, list(range(len(machine))))
        self.assertGreater(len(sizes), 5)

    def test_each_state_is_the_beginning_of_a_good_rest(self):
        kind = Kind([("a", "one", True)], [
            ("set", "self", [0, 1, -1], [("set", "a")], []),
            ("trap", "self", [2, 2, 2], [], []),
            ("build", "last", [0, 0, -1], [], []),
        ], modes=3)
        self.assertEqual(freest(kind), [[("set", 1)], [("set", 1), ("build", -1)]])

    def test_no_good_row(self):
        kind = samples.named()
        self.assertEqual(freest(kind, [("bar", "set", "build")]), [])
        self.assertEqual(freest(kind, [("ahead", "build", "set")]), [])
        self.assertEqual(freest(Kind([("a", "one", False)], [("p", "self", [0], [], [])])), [])
        self.assertEqual(freest(Kind([("a", "one", False)], [("z", "last", [-1], [], [])])), [])

    def test_one_state(self):
        self.assertEqual(freest(samples.shares()), [[("add", 0), ("build", -1)]])
        self.assertEqual(freest(Kind([("a", "one", False)], [("z", "last", [0], [], [])])), [[("z", -1)]])

    def test_any_words(self):
        """A strike can find the word that was added, so it can leave the list empty."""
        calls = [
            ("add", "self", [0], [("add", "a")], []), ("strike", "self", [0], [("strike", "a")], []),
            ("build", "last", [0], [], []),
        ]
        kind = Kind([("a", "many", True)], calls)
        self.assertEqual(freest(kind), [
            [("add", 1), ("strike", 0)], [("add", 1), ("strike", 0), ("build", -1)],
        ])
        self.assertIs(is_good(kind, [], ["add", "strike", "build"]), False)
        self.assertIs(is_good(kind, [], ["add", "strike", "add", "build"]), True)

    def test_what_the_last_call_does_counts(self):
        kind = Kind([("a", "one", True), ("b", "many", True)], [
            ("add", "new", [0], [("add", "b")], []), ("build", "last", [0], [("set", "a")], []),
            ("empty", "last", [0], [("set", "a"), ("clear", "b")], []),
        ])
        self.assertEqual(freest(kind), [[("add", 1)], [("add", 1), ("build", -1)]])

    def test_each_rule(self):
        kind = Kind([("a", "one", False)], [
            ("p", "self", [0], [], []), ("q", "new", [0], [], []), ("z", "last", [0], [], []),
        ])
        self.assertEqual(freest(kind, [("ahead", "p", "q")]), [
            [("p", 1), ("z", -1)], [("p", 1), ("q", 1), ("z", -1)],
        ])
        self.assertEqual(freest(kind, [("bar", "p", "q")]), [
            [("p", 1), ("q", 0), ("z", -1)], [("p", 1), ("z", -1)],
        ])
        self.assertEqual(freest(kind, [("once", "p")]), [
            [("p", 1), ("q", 0), ("z", -1)], [("q", 1), ("z", -1)],
        ])
        self.assertEqual(freest(kind, [("ahead", "q", "z"), ("once", "q"), ("once", "p"), ("bar", "q", "p")]), [
            [("p", 1), ("q", 2)], [("q", 2)], [("z", -1)],
        ])
        self.assertEqual(freest(kind, [("once", "z"), ("bar", "z", "p"), ("ahead", "p", "z")]), [
            [("p", 1), ("q", 0)], [("p", 1), ("q", 1), ("z", -1)],
        ])

    def test_kinds_with_many_states(self):
        calls = [(name, "self", [0], [("set", "a")], []) for name in "pqrst"]
        kind = Kind([("a", "one", True)], [*calls, ("z", "last", [0], [], [])])
        rules = [("once", name) for name in "pqrst"]
        machine = freest(kind, rules)
        self.assertEqual(len(machine), 32)
        self.assertEqual(machine[0], [(name, 1 + at) for at, name in enumerate("pqrst")])
        self.assertEqual(len(unlike_states(machine)), 32 * 31)
        for names in itertools.permutations("pqrst", 4):
            for many in range(5):
                for row in ([*names[:many], "z"], [*names[:many], names[0], "z"]):
                    self.assertIs(is_taken(machine, row), is_good(kind, rules, row))

    def test_modes_fields_and_rules_together(self):
        fields = [("a", "one", True), ("b", "many", True), ("c", "one", True)]
        calls = [
            ("p", "self", [1, 2, 3, 0], [("set", "a")], []), ("q", "new", [0, 2, 1, 3], [("add", "b")], []),
            ("r", "self", [3, 1, 2, 0], [("set", "c")], []), ("s", "self", [0, 0, 3, 2], [("strike", "b")], []),
            ("t", "new", [2, 1, 0, 3], [("clear", "a")], []), ("z", "last", [-1, 0, -1, 2], [], []),
        ]
        kind = Kind(fields, calls, modes=4)
        rules = [("once", "q"), ("ahead", "p", "r"), ("bar", "r", "t")]
        machine = freest(kind, rules)
        self.assertEqual(len(unlike_states(machine)), len(machine) * (len(machine) - 1))
        found = {}
        for many in range(5):
            for names in itertools.product("pqrst", repeat=many):
                good = good_by_runs(kind, rules, [*names, "z"])
                found[good] = True
                self.assertIs(is_taken(machine, [*names, "z"]), good)
        self.assertEqual(len(found), 2)

    def test_lists_and_tuples_for_one_another(self):
        kind = samples.named()
        rules = [("once", "set"), ("bar", "set", "build"), ("ahead", "set", "build")]
        for some in ([rules[0]], rules[::2], rules):
            for passed in (some, tuple(some), listed(some), tupled(some)):
                self.assertEqual(freest(kind, passed), freest(kind, some))
                for names in (["set", "build"], ("set", "build")):
                    self.assertIs(is_good(kind, passed, names), some != rules)

    def test_arguments_by_name_and_no_rules(self):
        kind = samples.named()
        self.assertEqual(freest(kind=kind, rules=()), freest(kind))
        self.assertIs(is_good(kind=kind, rules=[], names=["set", "build"]), True)

    def test_what_is_passed_stays_and_what_is_returned_is_new(self):
        kind, rules, names = samples.named(), [["once", "set"]], ["set", "build"]
        told = freest(kind, rules)
        is_good(kind, rules, names)
        self.assertEqual((rules, names), ([["once", "set"]], ["set", "build"]))
        spoil(freest(kind, rules))
        self.assertEqual(freest(samples.named(), rules), told)
        self.assertEqual(kind, samples.named())


class Wrong(unittest.TestCase):
    """[31], [32]"""

    def assert_bad_rule(self, rules, index):
        kind = samples.named()
        for ask in (lambda: freest(kind, rules), lambda: is_good(kind, rules, ["set", "build"]),
                    lambda: is_good(kind, rules, None)):
            with self.assertRaises(BadRule) as caught:
                ask()
            self.assertEqual(caught.exception.index, index)

    def test_no_list_of_rules(self):
        for thing in [x for x in samples.any_objects() if not isinstance(x, (list, tuple))]:
            self.assert_bad_rule(thing, 0)

    def test_any_rule(self):
        good = [("once", "set"), ["ahead", "set", "build"]]
        for thing in samples.any_objects():
            for ahead in ([], good[:1], good):
                self.assert_bad_rule([*ahead, thing], len(ahead))
                self.assert_bad_rule((*ahead, thing, None), len(ahead))

    def test_rules_that_are_nearly_right(self):
        for rule in (
            ("once",), ("once", "set", "build"), ("once", "none"), ("ahead", "set"), ("ahead", "set", "set"),
            ("bar", "build", "build"), ("bar", "set", "none"), ("bar", "none", "set"), ("Once", "set"),
            ("ahead", "set", "build", "set"), ("set", "once"), "once", {"once": "set"}, ("never", "set", "build"),
            (["once"], "set"), (None, "set"), ("once", ["set"]), ("ahead", None, "set"),
        ):
            self.assert_bad_rule([rule], 0)
            self.assert_bad_rule([("once", "set"), rule, 7], 1)
        for thing in samples.any_objects():
            for rule in ((thing, "set"), ("once", thing), (thing, "set", "build"), ("ahead", thing, "set"),
                         ("bar", "set", thing)):
                self.assert_bad_rule([rule], 0)

    def test_any_names(self):
        kind = samples.named()
        for thing in samples.any_objects():
            self.assertIs(is_good(kind, [], thing), False)
            for names in ([thing], ["set", thing], [thing, "build"], ["set", thing, "build"], ["set", "build", thing]):
                self.assertIs(is_good(kind, [], names), False)
        for names in ([], ["build"], ["set"], ["set", "build", "set"], ["set", "build", "build"], "set",
                      ["set", "set"], {"set": 1, "build": 2}, [["set", "build"]], ["build", "set", "build"]):
            self.assertIs(is_good(kind, [], names), False)
        self.assertIs(is_good(kind, [], ["set", "set", "build"]), True)

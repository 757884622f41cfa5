import random
import unittest

import samples
import trials
from makerlines.errors import BadThing, BadWord, Refused, UnknownCall
from makerlines.kinds import Kind
from makerlines.runs import Run
from makerlines.yards import Thing, Yard
from test_kinds import spoil

CALLS = [
    ("add", "self", [0], [("add", "a")], []),
    ("strike", "self", [0], [("strike", "a")], []),
    ("clear", "self", [0], [("clear", "a"), ("clear", "n")], []),
    ("fresh", "self", [0], [("fresh", "a")], []),
    ("set", "self", [0], [("set", "n")], []),
    ("build", "last", [0], [], ["a"]),
]


def yard_of(hand="self", same=()):
    """A yard whose calls but build have this hand and same."""
    calls = [call if call[0] == "build" else (call[0], hand, call[2], call[3], list(same)) for call in CALLS]
    return Yard(Kind([("n", "one", False), ("a", "many", False)], calls))


def looks(things):
    return [thing.look() for thing in things]


class Rows(unittest.TestCase):
    """[18]"""

    def test_make_call_look_and_run(self):
        yard = yard_of()
        one = yard.make()
        two = one.call("add", "x")
        product = two.call("build")
        three = one.call("set", "y")
        self.assertEqual(looks([one, two, three]), [("maker", 0, ["y", ["x"]])] * 3)
        self.assertEqual(product.look(), ("product", [None, ["x"]]))
        one.call("add", "z")
        self.assertEqual(product.look(), ("product", [None, ["x", "z"]]))
        rows = [("make",), ("add", 0, "x"), ("build", 1), ("set", 0, "y"), ("add", 0, "z")]
        self.assertEqual(yard.run(), Run(yard.kind, rows))

    def test_each_row_has_its_own_thing(self):
        yard = yard_of()
        one = yard.make()
        things = [one, one.call("add", "x"), one.call("fresh"), yard.make(), one.call("build")]
        self.assertEqual(len(set(map(id, things))), 5)
        for thing in things:
            self.assertIsInstance(thing, Thing)

    def test_an_empty_yard(self):
        yard = Yard(kind=samples.rich())
        self.assertEqual(yard.run(), Run(samples.rich()))
        self.assertIs(yard.undo(), False)
        self.assertEqual(yard.run().rows(), [])
        self.assertEqual(yard.make().look(), ("maker", 0, [None, [], []]))

    def test_yards_have_nothing_in_common(self):
        kind = samples.shares()
        one, other = Yard(kind), Yard(kind)
        thing = one.make()
        other.make().call("add", "y")
        thing.call("add", "x")
        self.assertEqual(thing.look(), ("maker", 0, [["x"]]))
        self.assertEqual(len(other.run()), 2)
        self.assertIs(one.undo(), True)
        self.assertEqual(len(other.run()), 2)

    def test_looks_are_new_at_every_depth(self):
        thing = yard_of().make().call("add", "x")
        product = thing.call("build")
        for one in (thing, product):
            spoil(one.look())
        self.assertEqual(thing.look(), ("maker", 0, [None, ["x"]]))
        self.assertEqual(product.look(), ("product", [None, ["x"]]))

    def test_the_run_stays(self):
        yard = yard_of()
        thing = yard.make()
        run = yard.run()
        thing.call("add", "x")
        self.assertEqual(run.things(), [("maker", 0, [None, []])])
        spoil(run.rows())
        self.assertEqual(len(yard.run()), 2)

    def test_arguments_by_name(self):
        thing = yard_of().make()
        self.assertEqual(thing.call(name="add", word="x").look(), ("maker", 0, [None, ["x"]]))
        self.assertEqual(thing.call("build", word=None).look(), ("product", [None, ["x"]]))

    def test_a_call_that_is_called_make(self):
        yard = Yard(Kind([("a", "many", False)], [("make", "new", [0], [("add", "a")], [])]))
        yard.make().call("make", "x")
        self.assertEqual(yard.run().rows(), [("make",), ("make", 0, "x")])

    def test_random_rows_as_runs(self):
        for seed in range(60):
            rng = random.Random(seed)
            kind = samples.random_kind(rng)
            rows = samples.random_rows(rng, kind, 40)
            yard, things, numbers = Yard(kind), [], []
            for row in rows:
                try:
                    base = None if len(row) == 1 else things[row[1]]
                    thing = yard.make() if len(row) == 1 else base and base.call(row[0], *row[2:])
                except Refused:
                    thing = None
                things.append(thing)
                if thing is not None:
                    numbers.append(len(things) - 1)
            self.assertEqual([x and x.look() for x in things], Run(kind, rows).things())
            self.assertEqual(yard.run().things(), [Run(kind, rows).things()[k] for k in numbers])


class Undo(unittest.TestCase):
    """[18]: what is taken back is as it was, its thing is gone for good."""

    def assert_taken_back(self, yard, things, thing, call):
        before, rows = looks(things), yard.run().rows()
        last = thing.call(*call)
        self.assertEqual(yard.run().rows()[:-1], rows)
        self.assertIs(yard.undo(), True)
        self.assertEqual(looks(things), before)
        self.assertEqual(yard.run().rows(), rows)
        for ask in (last.look, lambda: last.call("build"), lambda: last.call("none", 7)):
            with self.assertRaises(BadThing):
                ask()

    def test_behind_each_sort_of_call(self):
        for hand, same in (("self", ()), ("new", ("a",)), ("new", ()), ("last", ("a",)), ("last", ())):
            for call in (("add", "z"), ("add", "x"), ("strike", "x"), ("clear",), ("fresh",), ("set", "z"), ("build",)):
                yard = yard_of(hand, same)
                things = [yard.make()]
                for ahead in (("add", "x"), ("set", "m"), ("add", "y"), ("build",)):
                    things.append(next(x for x in things[::-1] if x.look()[0] == "maker").call(*ahead))
                for thing in things:
                    if thing.look()[0] == "maker":
                        with self.subTest(hand=hand, same=same, call=call):
                            self.assert_taken_back(yard, things, thing, call)

    def test_shared_lists_are_shared_again(self):
        yard = yard_of("new", ["a"])
        one = yard.make()
        two = one.call("add", "x")
        product = two.call("build")
        fresh = two.call("fresh")
        fresh.call("add", "y")
        yard.undo()
        yard.undo()
        self.assertEqual([x.look()[-1][1] for x in (one, two, product)], [["x"]] * 3)
        one.call("add", "z")
        self.assertEqual([x.look()[-1][1] for x in (one, two, product)], [["x", "z"]] * 3)
        run = yard.run()
        self.assertTrue(run.one(0, 1, "a") and run.one(1, 2, "a") and run.one(2, 3, "a"))

    def test_lists_that_a_fresh_has_parted_are_one_again(self):
        yard = yard_of()
        one = yard.make()
        product = one.call("build")
        one.call("fresh")
        one.call("add", "x")
        self.assertEqual(product.look(), ("product", [None, []]))
        yard.undo()
        yard.undo()
        one.call("add", "y")
        self.assertEqual(product.look(), ("product", [None, ["y"]]))

    def test_modes_are_as_they_were(self):
        yard = Yard(Kind([("n", "one", False)], [
            ("on", "self", [1, -1], [], []), ("end", "last", [-1, 0], [], []), ("fork", "new", [1, 0], [], []),
        ], modes=2))
        one = yard.make()
        with self.assertRaises(Refused):
            one.call("end")
        one.call("on")
        one.call("end")
        self.assertEqual(one.look()[1], 0)
        yard.undo()
        self.assertEqual(one.look()[1], 1)
        one.call("fork")
        yard.undo()
        yard.undo()
        self.assertEqual(one.look()[1], 0)
        with self.assertRaises(Refused):
            one.call("end")
        self.assertEqual(len(yard.run()), 1)

    def test_makes_are_taken_back(self):
        yard = yard_of()
        one, two = yard.make(), yard.make()
        self.assertIs(yard.undo(), True)
        self.assertEqual(one.look(), ("maker", 0, [None, []]))
        with self.assertRaises(BadThing):
            two.look()
        self.assertEqual([yard.undo(), yard.undo()], [True, False])
        with self.assertRaises(BadThing):
            one.look()

    def test_gone_for_good(self):
        yard = yard_of()
        one = yard.make()
        old = one.call("add", "x")
        yard.undo()
        new = one.call("add", "x")
        self.assertEqual(new.look(), ("maker", 0, [None, ["x"]]))
        for ask in (old.look, lambda: old.call("add", "y")):
            with self.assertRaises(BadThing):
                ask()
        self.assertEqual(yard.run().rows(), [("make",), ("add", 0, "x")])

    def test_undo_and_redo_at_random(self):
        for seed in range(40):
            rng = random.Random(seed)
            kind = trials.small_kind(rng, calls=(3, 5))
            yard, things, looked = Yard(kind), [], []
            for _ in range(40):
                if things and rng.random() < 0.4:
                    gone = things.pop()
                    self.assertIs(yard.undo(), True)
                    looked.pop()
                    self.assertEqual(looks(things), looked[-1] if looked else [])
                    with self.assertRaises(BadThing):
                        gone.look()
                    continue
                makers = [x for x in things if x.look()[0] == "maker"]
                try:
                    if not makers or rng.random() < 0.15:
                        things.append(yard.make())
                    else:
                        things.append(rng.choice(makers).call(*rng.choice(list(trials.items(kind, kind.names())))))
                    looked.append(looks(things))
                except Refused:
                    self.assertEqual(looks(things), looked[-1])
            self.assertEqual(yard.run().things(), looks(things))


class Wrong(unittest.TestCase):
    """[18]: BadThing ahead of UnknownCall ahead of BadWord ahead of Refused; nothing is left behind."""

    def setUp(self):
        self.yard = Yard(Kind([("a", "many", False)], [
            ("add", "self", [0, -1], [("add", "a")], []),
            ("end", "self", [1, -1], [], []),
            ("build", "last", [0, 1], [], ["a"]),
        ], modes=2))
        self.open = self.yard.make().call("add", "x")
        self.shut = self.yard.make().call("end")
        self.product = self.open.call("build")
        self.gone = self.yard.make()
        self.yard.undo()
        self.things = [self.open, self.shut, self.product]

    def assert_raises(self, error, thing, *arguments):
        before, rows = looks(self.things), self.yard.run().rows()
        with self.assertRaises(error) as caught:
            thing.call(*arguments)
        self.assertEqual(looks(self.things), before)
        self.assertEqual(self.yard.run().rows(), rows)
        return caught.exception

    def test_products_and_gone_things(self):
        for thing in (self.product, self.gone):
            for arguments in (("add", "x"), ("add",), ("build",), ("none",), (None, 7), ([],), ("build", "x")):
                self.assert_raises(BadThing, thing, *arguments)
        self.assertEqual(self.product.look(), ("product", [["x"]]))
        with self.assertRaises(BadThing):
            self.gone.look()

    def test_unknown_calls(self):
        for name in samples.any_objects():
            for thing in (self.open, self.shut):
                for word in ((), ("x",), (7,)):
                    self.assertIs(self.assert_raises(UnknownCall, thing, name, *word).name, name)

    def test_bad_words(self):
        for thing in (self.open, self.shut):
            for word in [x for x in samples.any_objects() if x not in ("a", "make")]:
                self.assertIs(self.assert_raises(BadWord, thing, "add", word).word, word)
            for word in [x for x in samples.any_objects() if x is not None]:
                self.assertIs(self.assert_raises(BadWord, thing, "end", word).word, word)
                self.assertIs(self.assert_raises(BadWord, thing, "build", word).word, word)
            self.assertIsNone(self.assert_raises(BadWord, thing, "add").word)

    def test_words_of_one_and_of_eight_letters(self):
        self.open.call("add", "abcdefgh")
        self.assertEqual(self.open.look(), ("maker", 0, [["x", "abcdefgh"]]))
        for word in ("abcdefghi", "A", "a1", "a b", "\u00e4", ""):
            self.assertIs(self.assert_raises(BadWord, self.open, "add", word).word, word)

    def test_refused(self):
        self.assertEqual(vars(self.assert_raises(Refused, self.shut, "add", "x")), {})
        self.assert_raises(Refused, self.shut, "end")
        self.assertIs(self.yard.undo(), True)
        self.assertEqual(looks([self.open, self.shut]), [("maker", 0, [["x"]]), ("maker", 1, [[]])])

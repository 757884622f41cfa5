import random
import unittest

import oracle
import samples
from makerlines.errors import BadPlace
from makerlines.kinds import Kind
from makerlines.runs import Run, own_things
from test_kinds import listed, spoil, tupled

MAKE = ("make",)


def kind_of(deeds=(), hand="self", same=(), more=()):
    """A kind with the fields n, a, b and the calls add, set, do, build, and more."""
    return Kind(
        [("n", "one", False), ("a", "many", False), ("b", "many", False)],
        [
            ("add", "self", [0], [("add", "a"), ("add", "b")], []),
            ("set", "self", [0], [("set", "n")], []),
            ("do", hand, [0], list(deeds), list(same)),
            ("build", "last", [0], [], ["a"]),
            *more,
        ],
    )


def words(kind, rows, k):
    """The contents of row k at the end."""
    return Run(kind, rows).things()[k][-1]


class Deeds(unittest.TestCase):
    """[13]"""

    AHEAD = [MAKE, ("set", 0, "m"), ("add", 0, "x"), ("add", 0, "y"), ("add", 0, "x")]

    def test_set(self):
        self.assertEqual(words(kind_of([("set", "n")]), [*self.AHEAD, ("do", 0, "z")], 0)[0], "z")

    def test_clear_one(self):
        self.assertEqual(words(kind_of([("clear", "n")]), [*self.AHEAD, ("do", 0)], 0),
                         [None, ["x", "y", "x"], ["x", "y", "x"]])

    def test_clear_many_empties_the_very_list(self):
        run = Run(kind_of([("clear", "a")]), [*self.AHEAD, ("build", 0), ("do", 0)])
        self.assertEqual(run.things()[5], ("product", ["m", [], ["x", "y", "x"]]))
        self.assertEqual(run.made(5), ["m", ["x", "y", "x"], ["x", "y", "x"]])
        self.assertIs(run.one(0, 5, "a"), True)

    def test_add_at_the_end_of_the_very_list(self):
        run = Run(kind_of(), [*self.AHEAD, ("build", 0), ("add", 0, "z")])
        self.assertEqual(run.things()[5], ("product", ["m", ["x", "y", "x", "z"], ["x", "y", "x"]]))
        self.assertEqual(run.things()[0][2][2], ["x", "y", "x", "z"])

    def test_strike_all_equal_words_of_the_very_list(self):
        run = Run(kind_of([("strike", "a")]), [*self.AHEAD, ("build", 0), ("do", 0, "x")])
        self.assertEqual(run.things()[5], ("product", ["m", ["y"], ["x", "y", "x"]]))
        self.assertIs(run.one(0, 5, "a"), True)
        run = Run(kind_of([("strike", "a")]), [*self.AHEAD, ("do", 0, "z")])
        self.assertEqual(run.things()[0][2][1], ["x", "y", "x"])

    def test_fresh_is_a_new_list_from_now_on(self):
        run = Run(kind_of([("fresh", "a")]), [*self.AHEAD, ("build", 0), ("do", 0), ("add", 0, "z")])
        self.assertIs(run.one(0, 5, "a"), False)
        self.assertEqual(run.things()[5], ("product", ["m", ["x", "y", "x"], ["x", "y", "x"]]))
        self.assertEqual(run.things()[0][2][1], ["x", "y", "x", "z"])

    def test_in_their_order(self):
        before = Run(kind_of([("clear", "a"), ("fresh", "a")]), [*self.AHEAD, ("build", 0), ("do", 0)])
        behind = Run(kind_of([("fresh", "a"), ("clear", "a")]), [*self.AHEAD, ("build", 0), ("do", 0)])
        self.assertEqual(before.things()[5][1][1], [])
        self.assertEqual(behind.things()[5][1][1], ["x", "y", "x"])
        self.assertEqual(before.things()[0], behind.things()[0])
        self.assertEqual(words(kind_of([("set", "n"), ("clear", "n")]), [MAKE, ("do", 0, "x")], 0)[0], None)
        self.assertEqual(words(kind_of([("clear", "n"), ("set", "n")]), [MAKE, ("do", 0, "x")], 0)[0], "x")

    def test_one_word_for_all_deeds(self):
        kind = kind_of([("set", "n"), ("add", "b"), ("strike", "a")])
        self.assertEqual(words(kind, [*self.AHEAD, ("do", 0, "x")], 0), ["x", ["y"], ["x", "y", "x", "x"]])


class Hands(unittest.TestCase):
    """[12]"""

    def test_make(self):
        run = Run(kind_of(), [MAKE, MAKE])
        self.assertEqual(run.things(), [("maker", 0, [None, [], []])] * 2)
        for field in ("a", "b"):
            self.assertIs(run.one(0, 1, field), False)

    def test_self_hands_the_maker_itself(self):
        run = Run(kind_of([("set", "n")]), [MAKE, ("do", 0, "x"), ("add", 1, "y"), ("set", 0, "z")])
        self.assertEqual(run.things(), [("maker", 0, ["z", ["y"], ["y"]])] * 4)
        self.assertIs(run.one(0, 2, "a"), True)

    def test_new_leaves_the_maker(self):
        kind = kind_of([("set", "n")], "new", ["b"])
        run = Run(kind, [MAKE, ("set", 0, "m"), ("add", 0, "x"), ("do", 0, "k"), ("add", 3, "y"), ("add", 0, "z")])
        self.assertEqual(run.things()[0], ("maker", 0, ["m", ["x", "z"], ["x", "y", "z"]]))
        self.assertEqual(run.things()[3], ("maker", 0, ["k", ["x", "y"], ["x", "y", "z"]]))
        self.assertEqual([run.one(0, 3, "a"), run.one(0, 3, "b")], [False, True])

    def test_new_has_the_contents_of_the_maker(self):
        kind = kind_of([], "new")
        run = Run(kind, [MAKE, ("set", 0, "m"), ("add", 0, "x"), ("do", 0)])
        self.assertEqual(run.things()[3], ("maker", 0, ["m", ["x"], ["x"]]))

    def test_the_deeds_of_a_new_are_done_on_the_new_one(self):
        kind = kind_of([("clear", "a"), ("clear", "b")], "new", ["b"])
        run = Run(kind, [MAKE, ("add", 0, "x"), ("do", 0)])
        self.assertEqual(run.things()[0], ("maker", 0, [None, ["x"], []]))
        self.assertEqual(run.things()[2], ("maker", 0, [None, [], []]))

    def test_the_deeds_of_a_last_are_done_on_the_maker(self):
        kind = kind_of([("set", "n"), ("add", "a"), ("add", "b")], "last", ["a"])
        run = Run(kind, [MAKE, ("do", 0, "x"), ("do", 0, "y")])
        self.assertEqual(run.things(), [
            ("maker", 0, ["y", ["x", "y"], ["x", "y"]]),
            ("product", ["x", ["x", "y"], ["x"]]),
            ("product", ["y", ["x", "y"], ["x", "y"]]),
        ])
        self.assertEqual([run.made(1), run.made(2)], [["x", ["x"], ["x"]], ["y", ["x", "y"], ["x", "y"]]])
        self.assertEqual([run.one(1, 2, "a"), run.one(0, 1, "a"), run.one(1, 2, "b")], [True, True, False])

    def test_a_last_with_fresh_shares_the_fresh_list(self):
        kind = kind_of([("fresh", "a")], "last", ["a"])
        run = Run(kind, [MAKE, ("build", 0), ("do", 0), ("add", 0, "x")])
        self.assertEqual(run.things()[1:3], [("product", [None, [], []]), ("product", [None, ["x"], []])])

    def test_modes(self):
        kind = Kind([("n", "one", False)], [
            ("on", "self", [1, 2, -1], [], []),
            ("fork", "new", [2, 0, 1], [], []),
            ("end", "last", [-1, 2, 0], [], []),
        ], modes=3)
        run = Run(kind, [MAKE, ("on", 0), ("fork", 0), ("end", 0), ("fork", 0), ("end", 4), ("end", 4),
                         ("end", 4)])
        self.assertEqual(run.things(), [
            ("maker", 2, [None]), ("maker", 2, [None]), ("maker", 0, [None]), ("product", [None]),
            ("maker", 0, [None]), ("product", [None]), ("product", [None]), None,
        ])

    def test_refused_rows_do_nothing(self):
        kind = Kind([("a", "many", False)], [
            ("add", "self", [1, -1], [("add", "a")], []),
            ("more", "new", [0, -1], [("add", "a")], ["a"]),
            ("build", "last", [-1, 1], [("add", "a")], ["a"]),
        ], modes=2)
        ahead = [MAKE, ("build", 0, "z"), ("add", 0, "x")]
        for name in ("add", "more"):
            run = Run(kind, [*ahead, (name, 0, "y"), (name, 3, "y"), ("build", 4, "y"), ("add", 4, "z"), MAKE])
            self.assertEqual(run.things()[3:], [None, None, None, None, ("maker", 0, [[]])])
            self.assertEqual(run.things()[:3], [("maker", 1, [["x"]]), None, ("maker", 1, [["x"]])])


class Runs(unittest.TestCase):
    """[15]"""

    ROWS = [MAKE, ("label", 0, "x"), ("tag", 1, "y"), ("finish", 2, "z"), ("wipe", 2), ("part", 4, "y")]

    def setUp(self):
        self.kind = samples.rich()
        self.run_of_all = Run(self.kind, self.ROWS)

    def test_empty_programs(self):
        for run in (Run(self.kind), Run(self.kind, []), Run(self.kind, ()), Run(self.kind).further([])):
            self.assertEqual((run.rows(), len(run), list(run), run.things()), ([], 0, [], []))
            self.assertIs(run.is_onward(), True)
            self.assertEqual(run, Run(self.kind))
        self.assertEqual(own_things(self.kind, []), [])

    def test_rows(self):
        for rows in (self.ROWS, listed(self.ROWS), tupled(self.ROWS)):
            run = Run(kind=self.kind, rows=rows)
            self.assertEqual(run.rows(), self.ROWS)
            self.assertEqual(list(run), self.ROWS)
            self.assertEqual(len(run), 6)
            self.assertEqual(run, self.run_of_all)
            self.assertEqual(own_things(kind=self.kind, rows=rows), own_things(self.kind, self.ROWS))

    def test_kind(self):
        self.assertIs(self.run_of_all.kind, self.kind)
        self.assertIs(self.run_of_all.further([MAKE]).kind, self.kind)

    def test_further(self):
        for at in range(7):
            run = Run(self.kind, self.ROWS[:at])
            whole = run.further(rows=listed(self.ROWS[at:]))
            self.assertEqual(whole, self.run_of_all)
            self.assertEqual(whole.things(), self.run_of_all.things())
            self.assertEqual(run, Run(self.kind, self.ROWS[:at]))
            self.assertEqual(run.things(), Run(self.kind, self.ROWS[:at]).things())

    def test_equality(self):
        self.assertTrue(self.run_of_all == Run(samples.rich(), self.ROWS))
        self.assertFalse(self.run_of_all != Run(samples.rich(), self.ROWS))
        others = [
            Run(self.kind, self.ROWS[:5]), Run(self.kind), Run(self.kind, [*self.ROWS[:5], ("part", 4, "z")]),
            Run(self.kind.own("finish", "tags"), self.ROWS), self.ROWS, tuple(self.ROWS), self.kind,
        ]
        for other in [*others, *samples.any_objects()]:
            self.assertFalse(self.run_of_all == other)
            self.assertTrue(self.run_of_all != other)
        self.assertNotEqual(Run(samples.shares()), Run(self.kind))

    def test_passed_lists_stay_and_can_be_changed_afterwards(self):
        rows = listed(self.ROWS)
        run = Run(self.kind, rows[:3]).further(rows[3:])
        own_things(self.kind, rows)
        self.assertEqual(rows, listed(self.ROWS))
        spoil(rows)
        self.assertEqual((run.rows(), list(run)), (self.ROWS, self.ROWS))
        self.assertEqual(run, self.run_of_all)

    def test_returned_lists_can_be_changed(self):
        run = Run(self.kind, self.ROWS)
        for ask in (run.rows, run.things, lambda: run.made(3), lambda: own_things(self.kind, self.ROWS)):
            before = repr(ask())
            first = ask()
            spoil(first)
            self.assertNotEqual(repr(first), before)
            self.assertEqual(repr(ask()), before)

    def test_arguments_by_name(self):
        self.assertEqual(self.run_of_all.made(k=3), self.run_of_all.made(3))
        self.assertIs(self.run_of_all.one(i=0, j=1, field="tags"), True)


class Asked(unittest.TestCase):
    """[16]"""

    ROWS = [MAKE, ("label", 0, "x"), ("finish", 1, "z"), ("finish", 1, "z"), ("label", 0, "y"), ("wipe", 4), MAKE]

    def setUp(self):
        # Rows 2 and 3 hand products; row 4 is refused, and so is row 5 on it.
        self.run_of_all = Run(samples.rich(), self.ROWS)
        self.assertEqual([x and x[0] for x in self.run_of_all.things()],
                         ["maker", "maker", "product", "product", None, None, "maker"])

    def test_kinds_of_values(self):
        things = self.run_of_all.things()
        self.assertEqual(things[0], ("maker", 2, ["z", [], []]))
        self.assertEqual(things[2], ("product", ["z", [], []]))
        for thing in things:
            self.assertIsInstance(thing, (tuple, None.__class__))

    def test_made_bad_places(self):
        for thing in [*samples.any_objects(), 4, 5, 6, 7, -4, -5, 2 ** 70, "2", [2]]:
            with self.assertRaises(BadPlace) as caught:
                self.run_of_all.made(thing)
            self.assertIs(caught.exception.place, thing)
        self.assertEqual(self.run_of_all.made(2), ["z", [], []])

    def test_true_is_not_the_number_of_a_row(self):
        run = Run(samples.shares(), [MAKE, ("build", 0)])
        self.assertEqual(run.made(1), [[]])
        for ask in (lambda: run.made(True), lambda: run.one(True, 1, "a"), lambda: run.one(1, True, "a")):
            with self.assertRaises(BadPlace) as caught:
                ask()
            self.assertIs(caught.exception.place, True)

    def test_one_bad_places(self):
        bad_rows = [*samples.other_than(0, 1), 4, 5, 7, -1, -7, "0"]
        bad_fields = [*samples.any_objects(), "name", "tag", "label", ["tags"]]
        for thing in bad_rows:
            self.assert_bad_place(thing, thing, 0, "tags")
            self.assert_bad_place(thing, 0, thing, "tags")
            self.assert_bad_place(thing, thing, [], None)
            self.assert_bad_place(thing, 0, thing, None)
        for thing in bad_fields:
            self.assert_bad_place(thing, 0, 2, thing)

    def assert_bad_place(self, place, i, j, field):
        with self.assertRaises(BadPlace) as caught:
            self.run_of_all.one(i, j, field)
        self.assertIs(caught.exception.place, place)

    def test_one(self):
        rows = [
            [self.run_of_all.one(i, j, field) for i in (0, 1, 2, 3, 6) for j in (0, 1, 2, 3, 6)]
            for field in ("tags", "parts")
        ]
        self.assertEqual([sum(row) for row in rows], [17, 7])
        self.assertEqual({x.__class__ for row in rows for x in row}, {bool})
        self.assertEqual([self.run_of_all.one(2, 3, field) for field in ("tags", "parts")], [True, False])

    def test_one_asks_the_end_of_the_run(self):
        kind = Kind([("a", "many", False)], [
            ("fork", "new", [0], [], ["a"]), ("part", "self", [0], [("fresh", "a")], []),
        ])
        self.assertIs(Run(kind, [MAKE, ("fork", 0)]).one(0, 1, "a"), True)
        self.assertIs(Run(kind, [MAKE, ("fork", 0), ("part", 0)]).one(0, 1, "a"), False)

    def test_made_is_not_the_end(self):
        run = Run(samples.shares(), [MAKE, ("build", 0), ("add", 0, "x"), ("build", 0), ("add", 0, "y")])
        self.assertEqual([run.made(1), run.made(3)], [[[]], [["x"]]])
        self.assertEqual(run.things()[1], ("product", [["x", "y"]]))


class Onward(unittest.TestCase):
    """[14], [17]"""

    def assert_onward(self, expected, *rows):
        self.assertIs(Run(samples.rich(), rows).is_onward(), expected)

    def test_each_on_what_was_handed_last(self):
        self.assert_onward(True, MAKE)
        self.assert_onward(True, MAKE, ("label", 0, "x"), ("tag", 1, "y"), ("wipe", 2))
        self.assert_onward(False, MAKE, ("label", 0, "x"), ("tag", 0, "y"))

    def test_products_are_made_on_the_way(self):
        self.assert_onward(True, MAKE, ("label", 0, "x"), ("finish", 1, "x"), ("finish", 1, "x"), ("tag", 1, "y"))
        self.assert_onward(False, MAKE, ("label", 0, "x"), ("finish", 0, "x"))
        self.assert_onward(False, MAKE, ("label", 0, "x"), ("finish", 1, "x"), ("tag", 0, "y"))

    def test_refused_rows_count(self):
        self.assert_onward(True, MAKE, ("finish", 0, "x"), ("label", 0, "x"), ("tag", 2, "x"), ("label", 3, "x"),
                           ("wipe", 4))
        self.assert_onward(False, MAKE, ("label", 0, "x"), ("tag", 1, "x"), ("label", 2, "x"), ("wipe", 2))

    def test_a_row_that_makes_is_what_was_handed_last(self):
        self.assert_onward(True, MAKE, MAKE, ("label", 1, "x"))
        self.assert_onward(False, MAKE, MAKE, ("label", 0, "x"))
        self.assert_onward(True, MAKE, ("label", 0, "x"), MAKE, ("label", 2, "x"), MAKE)


class OwnReading(unittest.TestCase):
    """[19]"""

    def test_a_value_stays_as_it_is(self):
        rows = [MAKE, ("add", 0, "x"), ("add", 0, "y"), ("build", 0), ("build", 2), ("add", 2, "z")]
        self.assertEqual(own_things(samples.shares(), rows), [
            ("maker", 0, [[]]), ("maker", 0, [["x"]]), ("maker", 0, [["y"]]),
            ("product", [[]]), ("product", [["y"]]), ("maker", 0, [["y", "z"]]),
        ])

    def test_the_mode_of_the_value_refuses(self):
        kind = Kind([("n", "one", False)], [
            ("set", "self", [1, -1], [("set", "n")], []), ("end", "last", [-1, 0], [("clear", "n")], []),
        ], modes=2)
        rows = [MAKE, ("set", 0, "x"), ("set", 0, "y"), ("end", 0), ("end", 1), ("end", 1), ("set", 1, "z"),
                ("set", 6, "z")]
        self.assertEqual(own_things(kind, rows), [
            ("maker", 0, [None]), ("maker", 1, ["x"]), ("maker", 1, ["y"]), None,
            ("product", [None]), ("product", [None]), None, None,
        ])
        # The run itself: one maker, which the rows change.
        self.assertEqual([x and x[0] for x in Run(kind, rows).things()],
                         ["maker", "maker", None, "product", None, None, "maker", None])

    def test_deeds_of_a_last(self):
        kind = kind_of([("set", "n"), ("add", "a")], "last", ["a"])
        self.assertEqual(own_things(kind, [MAKE, ("do", 0, "x"), ("do", 0, "y")]), [
            ("maker", 0, [None, [], []]), ("product", ["x", ["x"], []]), ("product", ["y", ["y"], []]),
        ])


class Examples(unittest.TestCase):
    """[33], [34], [35]: the kinds of the examples and the programs that are named of them."""

    def test_the_product_shares_its_list(self):
        run = Run(samples.shares(), [MAKE, ("build", 0), ("add", 0, "x")])
        self.assertEqual((run.made(1), run.things()[1]), ([[]], ("product", [["x"]])))
        self.assertIs(run.is_onward(), True)
        rows = [MAKE, ("add", 0, "x"), ("build", 0)]
        self.assertIs(Run(samples.shares(), rows).is_onward(), False)
        self.assertEqual(Run(samples.shares(), rows).made(2), [["x"]])
        self.assertEqual(own_things(samples.shares(), rows)[2], ("product", [[]]))
        mended = samples.shares().own("build", "a")
        self.assertEqual(Run(mended, run.rows()).things()[1], ("product", [[]]))

    def test_the_new_maker_shares_its_list(self):
        rows = [MAKE, ("add", 0, "x"), ("build", 0)]
        self.assertEqual(Run(samples.hands_new(), rows).made(2), [["x"]])
        self.assertEqual(own_things(samples.hands_new(), rows)[2], ("product", [[]]))
        self.assertEqual(Run(samples.hands_new(same=()), rows).made(2), [[]])

    def test_a_needed_name(self):
        run = Run(samples.named(), [MAKE, ("build", 0), ("set", 0, "x"), ("build", 0)])
        self.assertEqual([run.made(1), run.made(3)], [[None], ["x"]])


class AllAlike(unittest.TestCase):
    """[12] to [19] against a second reading with real objects that share real lists."""

    def assert_as_the_oracle(self, kind, rows):
        run = Run(kind, rows)
        things = oracle.handed(kind, rows)
        self.assertEqual(run.things(), [oracle.told(x) for x in things])
        self.assertIs(run.is_onward(), oracle.is_onward(kind, rows))
        own = [oracle.told(oracle.own_thing(kind, rows, k)) for k in range(len(rows))]
        self.assertEqual(own_things(kind, rows), own)
        for k, thing in enumerate(things):
            if isinstance(thing, oracle.Product):
                self.assertEqual(run.made(k), thing.early)
        lists = [name for name, sort, need in kind.fields() if sort == "many"]
        for i, one in enumerate(things):
            for j, other in enumerate(things):
                for field in lists if one and other else ():
                    self.assertIs(run.one(i, j, field), one.held[field] is other.held[field])

    def test_random_programs(self):
        rng = random.Random(5)
        for _ in range(400):
            kind = samples.random_kind(rng)
            self.assert_as_the_oracle(kind, samples.random_rows(rng, kind, rng.randint(0, 14)))

    def test_300_rows(self):
        rng = random.Random(9)
        for kind in (samples.rich(), samples.shares(), samples.random_kind(rng)):
            self.assert_as_the_oracle(kind, samples.random_rows(rng, kind, 300))

    def test_300_rows_of_one_line(self):
        kind = samples.shares()
        rows = [MAKE, *[("add", k, "x") for k in range(299)]]
        run = Run(kind, rows)
        self.assertEqual((len(run), run.is_onward()), (300, True))
        self.assertEqual(run.things(), [("maker", 0, [["x"] * 299])] * 300)
        self.assertEqual(own_things(kind, rows), [("maker", 0, [["x"] * k]) for k in range(300)])
        one_by_one = Run(kind)
        for row in rows:
            one_by_one = one_by_one.further([row])
        self.assertEqual(one_by_one, run)

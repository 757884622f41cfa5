import unittest

import samples
from makerlines.errors import BadRow
from makerlines.kinds import Kind
from makerlines.runs import Run, own_things

AHEAD = [("make",), ("label", 0, "x"), ("finish", 1, "y"), ("wipe", 1), ("part", 3, "x")]


class BadRows(unittest.TestCase):
    """[11], [15], [19]: BadRow(index), for Run, further and own_things alike."""

    def assert_bad(self, rows, index, kind=None):
        kind = samples.rich() if kind is None else kind
        for ask in (lambda: Run(kind, rows), lambda: own_things(kind, rows), lambda: Run(kind).further(rows)):
            with self.assertRaises(BadRow) as caught:
                ask()
            self.assertEqual(caught.exception.index, index)

    def assert_item(self, item):
        """The item is no row behind AHEAD, whichever way it comes there."""
        kind = samples.rich()
        self.assert_bad([*AHEAD, item], 5)
        self.assert_bad([*AHEAD, item, None], 5)
        with self.assertRaises(BadRow) as caught:
            Run(kind, AHEAD).further([item])
        self.assertEqual(caught.exception.index, 5)
        with self.assertRaises(BadRow) as caught:
            Run(kind, AHEAD[:2]).further([*AHEAD[2:], item, None])
        self.assertEqual(caught.exception.index, 5)

    def test_no_list(self):
        for thing in [x for x in samples.any_objects() if not isinstance(x, (list, tuple))]:
            self.assert_bad(thing, 0)
            for rows in ([], AHEAD[:3], AHEAD):
                with self.assertRaises(BadRow) as caught:
                    Run(samples.rich(), rows).further(thing)
                self.assertEqual(caught.exception.index, len(rows))

    def test_any_item(self):
        for thing in [x for x in samples.any_objects() if x != ("make",)]:
            self.assert_item(thing)
            self.assert_bad([thing], 0)

    def test_rows_that_are_nearly_right(self):
        for item in (
            "m", "make", ("Make",), ("make", 0), ("make", 0, "x"), ("make", None), ("label",), ("wipe",),
            ("label", 0), ("label", 0, "x", "x"), ("wipe", 0, "x"), ("wipe", 0, None), ("label", 0, None),
            ("label", "x", 0), (0, "label", "x"), ("labels", 0, "x"), {"wipe": 1, 0: 2}, "wi",
        ):
            self.assert_item(item)

    def test_any_name(self):
        for thing in samples.any_objects():
            self.assert_item((thing, 0, "x"))
            self.assert_item((thing, 0))
            if thing != "make":
                self.assert_item((thing,))

    def test_any_number(self):
        for thing in samples.other_than(0, 1):
            self.assert_item(("wipe", thing))
            self.assert_item(("label", thing, "x"))
        for k in (-1, -5, 2, 5, 6, 300, True, False, None, "0", [0], (0,)):
            self.assert_item(("wipe", k))

    def test_rows_of_a_last_are_not_called_on(self):
        self.assert_item(("wipe", 2))
        self.assert_item(("finish", 2, "x"))
        # Also if the row of the "last" was refused.
        self.assert_bad([("make",), ("finish", 0, "x"), ("wipe", 1)], 2)

    def test_any_word(self):
        for thing in [x for x in samples.any_objects() if x not in ("a", "make")]:
            self.assert_item(("label", 0, thing))

    def test_words_of_one_and_of_eight_letters(self):
        rows = [("make",), ("part", 0, "z"), ("part", 1, "abcdefgh")]
        self.assertEqual(Run(samples.rich(), rows).things()[0], ("maker", 0, [None, [], ["z", "abcdefgh"]]))
        for word in ("abcdefghi", "A", "a1", "a b", "", "\u00e4", "a\n"):
            self.assert_item(("part", 0, word))

    def test_the_first_row_makes(self):
        self.assert_bad([("wipe", 0)], 0)
        self.assert_bad([("wipe", -1), ("make",)], 0)

    def test_rows_on_later_rows(self):
        self.assert_bad([("make",), ("wipe", 2), ("make",)], 1)
        self.assert_bad([("make",), ("wipe", 1)], 1)

    def test_a_call_that_is_called_make(self):
        kind = Kind([("a", "many", False)], [("make", "new", [0], [("add", "a")], []), ("z", "last", [0], [], [])])
        rows = [("make",), ("make", 0, "x"), ("make",), ("make", 1, "y")]
        self.assertEqual(Run(kind, rows).things()[3], ("maker", 0, [["x", "y"]]))
        self.assert_bad([("make",), ("make", 0)], 1, kind)
        plain = Kind([("a", "many", False)], [("make", "last", [0], [], [])])
        self.assertEqual(Run(plain, [("make",), ("make", 0)]).things()[1], ("product", [[]]))
        self.assert_bad([("make",), ("make", 0), ("make", 1)], 2, plain)
        self.assert_bad([("make",), ("make", 0, "x")], 1, plain)

import unittest

import samples
from makerlines.errors import BadCall, BadField, BadModes
from makerlines.kinds import Kind

FIELDS = [("n", "one", False), ("a", "many", False), ("b", "many", True)]
GOOD = ("z", "new", [0, -1], [("set", "n"), ("add", "a")], ["a", "b"])


class BadFields(unittest.TestCase):
    """[8]: BadField(index)"""

    def assert_bad(self, fields, index, calls=(GOOD,), modes=2):
        with self.assertRaises(BadField) as caught:
            Kind(fields, calls, modes=modes)
        self.assertEqual(caught.exception.index, index)

    def test_no_list_or_empty(self):
        for thing in [x for x in samples.any_objects() if not isinstance(x, (list, tuple))]:
            self.assert_bad(thing, 0)
        self.assert_bad([], 0)
        self.assert_bad((), 0)

    def test_any_item(self):
        for thing in [*samples.any_objects(), "aonemany", ("a", "many"), ("a", "many", True, True),
                      {"a": 1, "many": 2, True: 3}]:
            self.assert_bad([thing], 0)
            self.assert_bad([FIELDS[0], thing], 1)
            self.assert_bad([*FIELDS[:2], thing, ("c", "one", False)], 2)

    def test_any_name_sort_and_need(self):
        for thing in [x for x in samples.any_objects() if x not in ("a", "make")]:
            self.assert_bad([FIELDS[0], (thing, "one", True)], 1)
        for thing in [*samples.any_objects(), "ONE", "any"]:
            self.assert_bad([FIELDS[0], ("c", thing, True)], 1)
        for thing in samples.other_than(True, False):
            self.assert_bad([FIELDS[0], ("c", "one", thing)], 1)

    def test_words(self):
        for name in ("", "abcdefghi", "A", "a1", "a b", "a_", "\u00e4", "a\n"):
            self.assert_bad([(name, "one", True)], 0)

    def test_a_name_twice(self):
        self.assert_bad([("a", "one", True), ("b", "one", True), ("a", "many", False)], 2)

    def test_a_fourth_one(self):
        self.assert_bad([*FIELDS, ("c", "one", False)], 3)
        self.assert_bad([*FIELDS, None], 3)
        self.assert_bad([*FIELDS, ("c", "one", False), None], 3)

    def test_the_first_one_is_told(self):
        self.assert_bad([FIELDS[0], None, None, None], 1)

    def test_ahead_of_modes_and_calls(self):
        self.assert_bad([FIELDS[0], None], 1, calls=None, modes=None)


class BadModeNumbers(unittest.TestCase):
    """[8]: BadModes(modes)"""

    def test_any_object(self):
        for thing in [x for x in samples.any_objects() if not samples.is_alike(x, 1)]:
            with self.assertRaises(BadModes) as caught:
                Kind(FIELDS, [GOOD], modes=thing)
            self.assertIs(caught.exception.modes, thing)

    def test_numbers(self):
        for modes in (-1, 0, 5, 6, 100):
            with self.assertRaises(BadModes) as caught:
                Kind(FIELDS, [GOOD], modes=modes)
            self.assertEqual(caught.exception.modes, modes)

    def test_ahead_of_calls(self):
        for calls in (None, [], [None]):
            with self.assertRaises(BadModes):
                Kind(FIELDS, calls, modes=5)


class BadCalls(unittest.TestCase):
    """[8]: BadCall(index, reason)"""

    def assert_bad(self, calls, index, reason, modes=2):
        with self.assertRaises(BadCall) as caught:
            Kind(FIELDS, calls, modes=modes)
        self.assertEqual((caught.exception.index, caught.exception.reason), (index, reason))

    def assert_part(self, at, thing, reason):
        """A call with this thing as its item at is wrong for this reason, also behind a good one."""
        call = list(GOOD)
        call[at] = thing
        self.assert_bad([call], 0, reason)
        call[0] = "y" if at != 0 else thing
        self.assert_bad([GOOD, tuple(call), None], 1, reason)

    def test_no_list_or_empty(self):
        for thing in [x for x in samples.any_objects() if not isinstance(x, (list, tuple))]:
            self.assert_bad(thing, 0, "call")
        self.assert_bad([], 0, "call")
        self.assert_bad((), 0, "call")

    def test_any_item(self):
        for thing in [*samples.any_objects(), "abcde", GOOD[:4], (*GOOD, [])]:
            self.assert_bad([thing], 0, "call")
            self.assert_bad([GOOD, thing, None], 1, "call")

    def test_items_that_are_no_strings_or_no_lists(self):
        for thing in [x for x in samples.any_objects() if not isinstance(x, str)]:
            self.assert_part(0, thing, "call")
            self.assert_part(1, thing, "call")
        for at in (2, 3, 4):
            for thing in [x for x in samples.any_objects() if not isinstance(x, (list, tuple))]:
                self.assert_part(at, thing, "call")

    def test_a_seventh_call(self):
        calls = [(name, *GOOD[1:]) for name in "abcdefg"]
        self.assert_bad(calls, 6, "call")
        self.assert_bad([*calls[:6], None], 6, "call")
        self.assert_bad([*calls[:6], ("a", "", [], [None], [None])], 6, "call")
        self.assert_bad([*calls[:5], ("a", *GOOD[1:]), calls[6]], 5, "name")

    def test_names(self):
        for name in ("", "abcdefghi", "A", "a1", "a b", "a_", "\u00e4", "a\n", "-"):
            self.assert_part(0, name, "name")
        self.assert_bad([GOOD, ("y", *GOOD[1:]), GOOD], 2, "name")

    def test_hands(self):
        for hand in ("", "SELF", "first", "selfnew", "one", "make"):
            self.assert_part(1, hand, "hand")

    def test_moves(self):
        for moves in ([], [0], [0, 0, 0], [0, 2], [-2, 0], [0, None], [True, 0], [0, False], ["0", 0],
                      [[0], 0], [0, 10 ** 30], [0, {}]):
            self.assert_part(2, moves, "moves")
            self.assert_part(2, tuple(moves), "moves")
        for thing in samples.other_than(0, 1, -1):
            self.assert_part(2, [0, thing], "moves")
        self.assert_bad([("z", "self", [1], [], [])], 0, "moves", modes=1)
        self.assert_bad([("z", "self", [4, 0, 0, 0], [], [])], 0, "moves", modes=4)

    def test_deeds(self):
        for pair in [*samples.any_objects(), ("add",), ("add", "a", "a"), "ab", ["add", "c"], ["add", "n"],
                     ["strike", "n"], ["fresh", "n"], ["set", "a"], ["", "a"], ["put", "a"], ["ADD", "a"],
                     {"add": 1, "a": 2}]:
            self.assert_part(3, [pair], "deed")
            self.assert_part(3, [("clear", "n"), pair], "deed")
        for thing in samples.any_objects():
            self.assert_part(3, [(thing, "a")], "deed")
        for thing in samples.other_than("a"):
            self.assert_part(3, [("add", thing)], "deed")
            self.assert_part(3, [("clear", thing)], "deed")

    def test_five_deeds(self):
        self.assert_part(3, [("clear", "a")] * 5, "deed")
        self.assert_part(3, [("set", "n")] * 4 + [None], "deed")

    def test_add_or_strike_twice_for_one_field(self):
        for one in ("add", "strike"):
            for other in ("add", "strike"):
                self.assert_part(3, [(one, "a"), (other, "a")], "deed")
                self.assert_part(3, [(one, "b"), ("fresh", "b"), (one, "a"), (other, "b")], "deed")

    def test_same(self):
        for same in (["n"], ["a", "a"], ["c"], [""], ["a", "b", "a"], ["a", None], [["a"]], ["b", "n"]):
            self.assert_part(4, same, "same")
            self.assert_part(4, tuple(same), "same")
        for thing in samples.other_than("a"):
            self.assert_part(4, [thing], "same")
        self.assert_bad([("z", "self", [0, 0], [], ["a"])], 0, "same")
        self.assert_bad([("z", "self", [0, 0], [], [None])], 0, "same")

    def test_which_reason_comes_first(self):
        good = ["y", "self", [0, 0], [("add", "a")], []]
        wrong = ["z", "", [None], [None], [None]]
        for at, reason in enumerate(["name", "hand", "moves", "deed", "same"]):
            # All items ahead of this one are right, it and all behind it are wrong.
            self.assert_bad([GOOD, [*good[:at], *wrong[at:]]], 1, reason)
            self.assert_bad([GOOD, [*good[:at], wrong[at], *good[at + 1:]]], 1, reason)
        self.assert_bad([GOOD, ["z", "", [None], [None], None]], 1, "call")

    def test_the_first_wrong_call_is_told(self):
        self.assert_bad([GOOD, ("y", "new", [0, 0], [], ["n"]), None, ("", "", [], [], [])], 1, "same")

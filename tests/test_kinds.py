import random
import unittest

import samples
from makerlines.errors import BadPlace, UnknownCall
from makerlines.kinds import Kind


def listed(x):
    """The same with a list for each list and tuple, at every depth."""
    return [listed(y) for y in x] if isinstance(x, (list, tuple)) else x


def tupled(x):
    return tuple([tupled(y) for y in x]) if isinstance(x, (list, tuple)) else x


class Sizes(unittest.TestCase):
    """[6], [7], [8]: what can be a kind."""

    def test_one_to_three_fields(self):
        for many in (1, 2, 3):
            fields = samples.RICH_FIELDS[:many]
            self.assertEqual(Kind(fields, [("z", "self", [0], [], [])]).fields(), fields)

    def test_one_to_four_modes(self):
        for modes in (1, 2, 3, 4):
            moves = [-1] * (modes - 1) + [modes - 1]
            kind = Kind([("a", "one", False)], [("z", "new", moves, [], [])], modes=modes)
            self.assertEqual(kind.modes, modes)
            self.assertEqual(kind["z"][2], moves)

    def test_modes_are_one_if_not_told(self):
        self.assertEqual(samples.shares().modes, 1)
        self.assertEqual(samples.shares(), Kind(samples.SHARES_FIELDS, samples.SHARES_CALLS, modes=1))

    def test_modes_only_by_name(self):
        with self.assertRaises(TypeError):
            Kind(samples.SHARES_FIELDS, samples.SHARES_CALLS, 1)

    def test_one_to_six_calls(self):
        for many in range(1, 7):
            calls = samples.RICH_CALLS[:many]
            kind = Kind(samples.RICH_FIELDS, calls, modes=4)
            self.assertEqual(len(kind), many)
            self.assertEqual(kind.calls(), calls)

    def test_words_of_one_and_of_eight_letters(self):
        kind = Kind(
            [("a", "many", True), ("zzzzzzzz", "one", False)],
            [("z", "last", [0], [], ["a"]), ("abcdefgh", "self", [0], [("set", "zzzzzzzz")], [])],
        )
        self.assertEqual(kind.names(), ["z", "abcdefgh"])

    def test_a_field_and_a_call_can_have_one_name(self):
        kind = Kind([("a", "many", True)], [("a", "last", [0], [("add", "a")], ["a"])])
        self.assertEqual(kind.own("a", "a")["a"][4], [])

    def test_four_deeds(self):
        deeds = [("fresh", "a"), ("add", "a"), ("clear", "a"), ("fresh", "a")]
        self.assertEqual(Kind(samples.SHARES_FIELDS, [("z", "self", [0], deeds, [])])["z"][3], deeds)

    def test_set_and_clear_can_stand_several_times(self):
        deeds = [("set", "n"), ("clear", "n"), ("set", "n"), ("set", "n")]
        self.assertEqual(Kind([("n", "one", True)], [("z", "new", [0], deeds, [])])["z"][3], deeds)

    def test_add_and_strike_once_for_each_field(self):
        fields = [("a", "many", False), ("b", "many", False)]
        deeds = [("add", "a"), ("strike", "b")]
        self.assertEqual(Kind(fields, [("z", "last", [0], deeds, ["b", "a"])])["z"][3:], (deeds, ["b", "a"]))

    def test_same_empty_and_not(self):
        for same in ([], ["tags"], ["parts"], ["tags", "parts"], ["parts", "tags"]):
            for hand in ("new", "last"):
                kind = Kind(samples.RICH_FIELDS, [("z", hand, [0], [], same)])
                self.assertEqual(kind["z"][4], same)


class Telling(unittest.TestCase):
    """[9]"""

    def setUp(self):
        self.kind = samples.rich()

    def test_fields_and_calls_in_the_given_order(self):
        self.assertEqual(self.kind.fields(), samples.RICH_FIELDS)
        self.assertEqual(self.kind.calls(), samples.RICH_CALLS)
        self.assertEqual(self.kind.modes, 4)

    def test_kinds_of_values(self):
        kind = Kind(listed(samples.RICH_FIELDS), listed(samples.RICH_CALLS), modes=4)
        self.assert_as_written(kind)
        self.assert_as_written(Kind(tupled(samples.RICH_FIELDS), tupled(samples.RICH_CALLS), modes=4))

    def assert_as_written(self, kind):
        self.assertEqual(kind, self.kind)
        self.assertEqual(kind.fields(), samples.RICH_FIELDS)
        self.assertEqual(kind.calls(), samples.RICH_CALLS)
        self.assertEqual([kind[name] for name in kind], samples.RICH_CALLS)

    def test_names(self):
        names = ["label", "tag", "drop", "wipe", "part", "finish"]
        self.assertEqual(self.kind.names(), names)
        self.assertIsInstance(self.kind.names(), list)
        self.assertEqual([name for name in self.kind], names)
        self.assertEqual(len(self.kind), 6)

    def test_one_call(self):
        for call in samples.RICH_CALLS:
            self.assertEqual(self.kind[call[0]], call)
            self.assertIsInstance(self.kind[call[0]], tuple)

    def test_in(self):
        for name in self.kind.names():
            self.assertIs(name in self.kind, True)
        for thing in [*samples.any_objects(), "Label", "labe", "tags", b"label", ("label",)]:
            self.assertIs(thing in self.kind, False)

    def test_unknown_calls(self):
        for thing in [*samples.any_objects(), "tags", "labels"]:
            for ask in (lambda: self.kind[thing], lambda: self.kind.takes(thing),
                        lambda: self.kind.own(thing, "tags"), lambda: self.kind.own(thing, None)):
                with self.assertRaises(UnknownCall) as caught:
                    ask()
                self.assertIs(caught.exception.name, thing)

    def test_takes(self):
        found = [name for name in self.kind if self.kind.takes(name)]
        self.assertEqual(found, ["label", "tag", "drop", "part", "finish"])
        self.assertIs(self.kind.takes("label"), True)
        self.assertIs(self.kind.takes(name="wipe"), False)

    def test_takes_by_each_deed(self):
        fields = [("n", "one", False), ("a", "many", False)]
        for deed, field, takes in [
            ("set", "n", True), ("clear", "n", False), ("add", "a", True),
            ("strike", "a", True), ("fresh", "a", False), ("clear", "a", False),
        ]:
            kind = Kind(fields, [("z", "self", [0], [("clear", "a"), (deed, field)], [])])
            self.assertIs(kind.takes("z"), takes, deed)
        self.assertIs(Kind(fields, [("z", "self", [0], [], [])]).takes("z"), False)


class Equality(unittest.TestCase):
    """[9]: two kinds are equal if fields, modes and calls are, in their orders."""

    def test_equal(self):
        self.assertTrue(samples.rich() == samples.rich())
        self.assertFalse(samples.rich() != samples.rich())

    def test_other_fields_modes_calls_and_orders(self):
        fields, calls = samples.RICH_FIELDS, samples.RICH_CALLS
        others = [
            Kind(fields[::-1], calls, modes=4),
            Kind([("name", "one", False), *fields[1:]], calls, modes=4),
            Kind(fields, calls[::-1], modes=4),
            Kind(fields, calls[:5], modes=4),
            Kind(fields, [("labels", *calls[0][1:]), *calls[1:]], modes=4),
            Kind(fields, [("label", "self", [1, 1, -1, 2], *calls[0][3:]), *calls[1:]], modes=4),
            samples.rich().own("tag", "tags"),
        ]
        swapped = list(calls)
        swapped[1] = (*calls[1][:4], ["parts", "tags"])
        others.append(Kind(fields, swapped, modes=4))
        swapped = list(calls)
        swapped[2] = (*calls[2][:3], calls[2][3][::-1], [])
        others.append(Kind(fields, swapped, modes=4))
        for other in others:
            self.assertFalse(samples.rich() == other)
            self.assertTrue(samples.rich() != other)

    def test_other_sort_and_hand(self):
        one = Kind([("a", "one", False)], [("z", "new", [0], [], [])])
        self.assertNotEqual(one, Kind([("a", "many", False)], [("z", "new", [0], [], [])]))
        self.assertNotEqual(one, Kind([("a", "one", False)], [("z", "last", [0], [], [])]))

    def test_unequal_to_all_other_objects(self):
        kind = samples.rich()
        for thing in [*samples.other_than(kind), kind.text(), kind.calls(), kind.names()]:
            self.assertFalse(kind == thing)
            self.assertTrue(kind != thing)
            self.assertFalse(thing == kind)


class Own(unittest.TestCase):
    """[9]: kind.own(name, field)"""

    def test_the_field_is_left_out_of_this_same_alone(self):
        kind = samples.rich()
        mended = kind.own("tag", "tags")
        calls = list(samples.RICH_CALLS)
        calls[1] = (*calls[1][:4], ["parts"])
        self.assertEqual(mended.calls(), calls)
        self.assertEqual((mended.fields(), mended.modes), (samples.RICH_FIELDS, 4))
        self.assertEqual(mended.own(name="tag", field="parts")["tag"][4], [])
        self.assertEqual(kind, samples.rich())

    def test_bad_places(self):
        kind = samples.rich()
        for thing in [*samples.any_objects(), "name", "label", "parts", "tag", ["tags"]]:
            with self.assertRaises(BadPlace) as caught:
                kind.own("finish", thing)
            self.assertIs(caught.exception.place, thing)
        with self.assertRaises(BadPlace):
            kind.own("tag", "tags").own("tag", "tags")
        with self.assertRaises(BadPlace):
            kind.own("label", "tags")


class Apart(unittest.TestCase):
    """[3]: nothing that is passed is modified, and what is returned is new at every depth."""

    def test_passed_lists_stay_and_can_be_changed_afterwards(self):
        fields, calls = listed(samples.RICH_FIELDS), listed(samples.RICH_CALLS)
        kind = Kind(fields, calls, modes=4)
        self.assertEqual((fields, calls), (listed(samples.RICH_FIELDS), listed(samples.RICH_CALLS)))
        spoil(fields)
        spoil(calls)
        self.assertEqual(kind, samples.rich())
        self.assertEqual(kind.calls(), samples.RICH_CALLS)
        self.assertEqual(kind.text(), samples.rich().text())

    def test_returned_lists_can_be_changed(self):
        kind = samples.rich()
        for ask in (kind.fields, kind.calls, kind.names, lambda: [kind[name] for name in kind]):
            first = ask()
            spoil(first)
            self.assertNotEqual(first, ask())
        self.assertEqual(kind, samples.rich())
        self.assertEqual(kind.calls(), samples.RICH_CALLS)
        self.assertEqual(kind.fields(), samples.RICH_FIELDS)
        self.assertEqual(kind["tag"], samples.RICH_CALLS[1])

    def test_random_kinds_tell_what_they_were_given(self):
        rng = random.Random(7)
        for _ in range(200):
            kind = samples.random_kind(rng)
            again = Kind(tupled(kind.fields()), listed(kind.calls()), modes=kind.modes)
            self.assertEqual(again, kind)
            self.assertEqual(again.calls(), kind.calls())


def spoil(x):
    """Change every list in it, at every depth."""
    if isinstance(x, (list, tuple)):
        for y in x:
            spoil(y)
    if isinstance(x, list):
        x.append("spoilt")
        x.reverse()

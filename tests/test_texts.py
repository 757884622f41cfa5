import random
import unittest

import samples
from makerlines.errors import BadCall, BadField, BadModes, BadText
from makerlines.kinds import Kind

RICH_TEXT = """\
modes 4
field name one need
field tags many
field parts many need
call label self 1 1 -1 3
do set name
call tag new 0 2 2 -1
do fresh tags
do add tags
same tags
same parts
call drop self 0 1 2 3
do strike tags
do clear name
call wipe new 3 3 3 3
do clear parts
do clear tags
same parts
call part self 0 1 2 -1
do add parts
call finish last -1 2 2 3
do clear name
do set name
same tags
"""
LINES = RICH_TEXT.splitlines()


def text_of(lines):
    return "".join(f"{line}\n" for line in lines)


class Written(unittest.TestCase):
    """[10]: kind.text()"""

    def test_text(self):
        self.assertEqual(samples.rich().text(), RICH_TEXT)
        self.assertEqual(samples.shares().text(), (
            "modes 1\nfield a many\ncall add self 0\ndo add a\ncall build last 0\nsame a\n"
        ))

    def test_read_again(self):
        rng = random.Random(11)
        for _ in range(300):
            kind = samples.random_kind(rng)
            again = Kind.of_text(text=kind.text())
            self.assertEqual(again, kind)
            self.assertEqual(again.text(), kind.text())

    def test_static(self):
        self.assertEqual(Kind.of_text(RICH_TEXT), samples.rich())
        self.assertEqual(samples.shares().of_text(RICH_TEXT), samples.rich())

    def test_names_that_are_heads_of_lines(self):
        kind = Kind(
            [("field", "many", True), ("need", "one", False), ("modes", "many", True)],
            [("call", "new", [0], [("add", "field")], ["field"]), ("do", "last", [-1], [], ["modes"]),
             ("same", "self", [0], [("set", "need")], [])],
        )
        self.assertEqual(Kind.of_text(kind.text()), kind)


class BadTexts(unittest.TestCase):
    """[10]: BadText(line)"""

    def assert_bad(self, text, line):
        with self.assertRaises(BadText) as caught:
            Kind.of_text(text)
        self.assertEqual(caught.exception.line, line, text)

    def assert_line(self, at, line):
        """With this line in the place of line at, from 1 on, the text is bad there."""
        self.assert_bad(text_of([*LINES[:at - 1], line, *LINES[at:]]), at)

    def test_empty(self):
        self.assert_bad("", 1)
        self.assert_bad("\n", 1)
        self.assert_bad("\n" + RICH_TEXT, 1)

    def test_no_text(self):
        for thing in [x for x in samples.any_objects() if not isinstance(x, str)]:
            with self.assertRaises(BadText) as caught:
                Kind.of_text(thing)
            self.assertEqual(caught.exception.line, 1)

    def test_last_line_without_a_line_feed(self):
        self.assert_bad(RICH_TEXT[:-1], len(LINES))
        self.assert_bad("modes 1", 1)
        self.assert_bad(RICH_TEXT + "same parts", len(LINES) + 1)
        self.assert_bad(RICH_TEXT + " ", len(LINES) + 1)

    def test_an_earlier_line_is_told_ahead_of_the_missing_line_feed(self):
        self.assert_bad("modes 1\nfield\nfield a", 2)

    def test_empty_lines(self):
        for at in range(len(LINES) + 1):
            self.assert_bad(text_of([*LINES[:at], "", *LINES[at:]]), at + 1)

    def test_blanks_and_other_breaks(self):
        for at, line in enumerate(LINES, start=1):
            self.assert_line(at, line + " ")
            self.assert_line(at, " " + line)
            self.assert_line(at, line.replace(" ", "  ", 1))
            self.assert_line(at, line.replace(" ", "\t", 1))
            self.assert_line(at, line + "\r")
            self.assert_line(at, line.upper())
        for sign in ("\r", "\x0b", "\x0c", "\x1c", "\x85", "\u2028"):
            self.assert_bad(f"modes 1{sign}field a many\n", 1)

    def test_heads_alone_and_unknown_heads(self):
        for line in ("modes", "field", "call", "do", "same", "kind a", "mode 1", "fields a one", "a", "1"):
            self.assert_line(1, line)
            self.assert_line(3, line)
            self.assert_line(9, line)

    def test_modes_lines(self):
        for line in ("modes 01", "modes 00", "modes -1", "modes +1", "modes 1 1", "modes one", "modes 1.",
                     "modes 0x1", "modes 1_0", "modes \u0661", "modes \u00b2", "modes "):
            self.assert_line(1, line)

    def test_field_lines(self):
        for line in ("field a", "field a many needed", "field a many need need", "field a many need ", "field A many",
                     "field a MANY", "field abcdefghi many", "field a manymanym", "field a 1", "field 1 many",
                     "field a many True", "field  many", "field a b c"):
            self.assert_line(2, line)

    def test_call_lines(self):
        for line in ("call a", "call a 0", "call A self 0", "call a SELF 0", "call a self -2", "call a self 01",
                     "call a self -0", "call a self -01", "call a self +1", "call a self --1", "call a self x",
                     "call a self 0 -1 -", "call a self \u0661", "call abcdefghi self 0", "call a selfselfs 0",
                     "call a self 1 2 3 4 5 x", "call a self "):
            self.assert_line(5, line)

    def test_deed_and_same_lines(self):
        for line in ("do add", "do add tags tags", "do ADD tags", "do add 1", "do 1 tags", "do addaddadd tags"):
            self.assert_line(8, line)
        for line in ("same", "same tags parts", "same 1", "same TAGS", "same abcdefghi", "same -1"):
            self.assert_line(10, line)

    def test_modes_first_and_once(self):
        self.assert_bad(text_of(LINES[1:]), 1)
        self.assert_bad(text_of([LINES[1], LINES[0], *LINES[2:]]), 1)
        for at in range(1, len(LINES) + 1):
            self.assert_bad(text_of([*LINES[:at], "modes 4", *LINES[at:]]), at + 1)

    def test_field_behind_a_call(self):
        for at in range(5, len(LINES) + 1):
            self.assert_bad(text_of([*LINES[:at], "field more one", *LINES[at:]]), at + 1)

    def test_deed_or_same_ahead_of_the_first_call(self):
        for at in range(1, 5):
            self.assert_bad(text_of([*LINES[:at], "do add tags", *LINES[at:]]), at + 1)
            self.assert_bad(text_of([*LINES[:at], "same tags", *LINES[at:]]), at + 1)

    def test_deed_behind_a_same_of_its_call(self):
        self.assert_bad(text_of([*LINES[:10], "do clear name", *LINES[10:]]), 11)
        self.assert_bad(text_of([*LINES[:11], "do clear name", *LINES[11:]]), 12)
        self.assert_bad(text_of([*LINES, "do clear name"]), len(LINES) + 1)

    def test_the_text_comes_ahead_of_the_kind(self):
        self.assert_bad("modes 9\nfield a no\nfield a no\ncall a no\nsame b\nsame b\ndo no no\n", 7)


class BadKinds(unittest.TestCase):
    """[10]: behind BadText the errors of Kind."""

    def assert_raises(self, lines, error, **held):
        with self.assertRaises(error) as caught:
            Kind.of_text(text_of(lines))
        self.assertEqual(vars(caught.exception), held)

    def test_fields(self):
        self.assert_raises(["modes 1"], BadField, index=0)
        self.assert_raises(["modes 9", "call a self"], BadField, index=0)
        self.assert_raises(["modes 1", "field a any"], BadField, index=0)
        self.assert_raises(["modes 1", "field a need"], BadField, index=0)
        self.assert_raises([*LINES[:4], "field more one", *LINES[4:]], BadField, index=3)

    def test_modes(self):
        for number in (0, 5, 10, 123456789012345678901234567890):
            self.assert_raises([f"modes {number}", *LINES[1:]], BadModes, modes=number)
        with self.assertRaises(BadModes) as caught:
            Kind.of_text(text_of(["modes 1" + "0" * 4600, *LINES[1:]]))
        self.assertEqual(caught.exception.modes, 10 ** 4600)

    def test_calls(self):
        self.assert_raises(LINES[:4], BadCall, index=0, reason="call")
        self.assert_raises([*LINES, "call more self"], BadCall, index=6, reason="call")
        self.assert_raises([*LINES[:4], "call a hand 0 0 0 0"], BadCall, index=0, reason="hand")
        self.assert_raises([*LINES[:6], "call a self"], BadCall, index=1, reason="moves")
        self.assert_raises([*LINES[:6], "call a self 0 1 2 4"], BadCall, index=1, reason="moves")
        self.assert_raises([*LINES[:6], "call a self 0 1 2 3 0"], BadCall, index=1, reason="moves")
        self.assert_raises([*LINES[:6], "do add name"], BadCall, index=0, reason="deed")
        self.assert_raises([*LINES[:6], "do put tags"], BadCall, index=0, reason="deed")
        self.assert_raises([*LINES[:6], "same tags"], BadCall, index=0, reason="same")


class Changed(unittest.TestCase):
    """[10]: each line left out, doubled, and exchanged with the next one."""

    def outcome(self, lines):
        try:
            return Kind.of_text(text_of(lines))
        except (BadText, BadField, BadModes, BadCall) as error:
            return (error.__class__.__name__, *vars(error).values())

    def test_left_out(self):
        found = [self.outcome([*LINES[:at], *LINES[at + 1:]]) for at in range(len(LINES))]
        self.assertEqual(found[0], ("BadText", 1))
        self.assertEqual(found[1], ("BadCall", 0, "deed"))
        self.assertEqual(found[2], ("BadCall", 1, "deed"))
        self.assertEqual(found[3], ("BadCall", 1, "same"))
        self.assertEqual(found[4], ("BadText", 5))
        self.assertEqual(found[5]["label"], ("label", "self", [1, 1, -1, 3], [], []))
        self.assertEqual(found[6], ("BadCall", 0, "same"))
        self.assertEqual(found[7]["tag"][3], [("add", "tags")])
        self.assertEqual(found[9], samples.rich().own("tag", "tags"))
        self.assertEqual(found[11], ("BadText", 12))
        self.assertEqual(found[23], samples.rich().own("finish", "tags"))

    def test_doubled(self):
        found = [self.outcome([*LINES[:at + 1], *LINES[at:]]) for at in range(len(LINES))]
        self.assertEqual(found[:6], [
            ("BadText", 2), ("BadField", 1), ("BadField", 2), ("BadField", 3), ("BadCall", 1, "name"),
            Kind.of_text(text_of([*LINES[:6], *LINES[5:]])),
        ])
        self.assertEqual(found[5]["label"][3], [("set", "name"), ("set", "name")])
        self.assertEqual(found[8], ("BadCall", 1, "deed"))
        self.assertEqual(found[9], ("BadCall", 1, "same"))
        self.assertEqual(found[12], ("BadCall", 2, "deed"))
        self.assertEqual(found[20], ("BadCall", 6, "call"))

    def test_exchanged(self):
        found = []
        for at in range(len(LINES) - 1):
            found.append(self.outcome([*LINES[:at], LINES[at + 1], LINES[at], *LINES[at + 2:]]))
        self.assertEqual(found[0], ("BadText", 1))
        self.assertEqual(found[1].fields(), [samples.RICH_FIELDS[at] for at in (1, 0, 2)])
        self.assertEqual(found[3], ("BadText", 5))
        self.assertEqual(found[4], ("BadText", 5))
        self.assertEqual(found[7]["tag"][3], [("add", "tags"), ("fresh", "tags")])
        self.assertEqual(found[8], ("BadText", 10))
        self.assertEqual(found[9]["tag"][4], ["parts", "tags"])
        self.assertEqual(found[10], ("BadText", 13))

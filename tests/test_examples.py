import unittest

import samples
from makerlines.kinds import Kind
from makerlines.likes import styles
from makerlines.orders import freest
from makerlines.runs import Run
from makerlines.wishes import is_broken, judge, mends


class Examples(unittest.TestCase):
    """[33], [34], [35], and what [1] and [2] tell of them"""

    def test_a_shared_list(self):
        kind = Kind([("a", "many", False)], [
            ("add", "self", [0], [("add", "a")], []), ("build", "last", [0], [], ["a"]),
        ])
        for callers in ("onward", "forks"):
            verdict, rows = judge(kind, "steady", callers)
            self.assertEqual((verdict, [row[0] for row in rows]), ("broken", ["make", "build", "add"]))
            self.assertIs(is_broken("steady", Run(kind, rows)), True)
            self.assertIs(Run(kind, rows).is_onward(), True)
            self.assertEqual(mends(kind, "steady", callers), [[("build", "a")]])
        verdict, rows = judge(kind, "own")
        self.assertEqual((verdict, [row[0] for row in rows]), ("broken", ["make", "add", "build"]))
        self.assertEqual((rows[1][1], len(rows[1]), rows[2]), (0, 3, ("build", 0)))
        self.assertEqual(judge(kind, "own", "onward")[0], "holds")

    def test_a_new_maker_with_a_shared_list(self):
        kind = samples.hands_new()
        verdict, rows = judge(kind, "own")
        self.assertEqual((verdict, [row[0] for row in rows]), ("broken", ["make", "add", "build"]))
        self.assertEqual(rows[2], ("build", 0))
        self.assertEqual(Run(kind, rows).things()[2], ("product", [[rows[1][2]]]))
        self.assertEqual(styles(kind), ("alike",))

    def test_a_new_maker_with_a_list_of_its_own(self):
        verdict, row = styles(samples.hands_new(()))
        self.assertEqual(verdict, "calls")
        self.assertEqual(row, [("add", row[0][1]), ("build",)])

    def test_the_machine_of_good_orders(self):
        kind = Kind([("name", "one", True)], [
            ("set", "self", [0], [("set", "name")], []), ("build", "last", [0], [], []),
        ])
        self.assertEqual(freest(kind), [[("set", 1)], [("set", 1), ("build", -1)]])
        self.assertEqual(freest(kind, [("once", "set")]), [[("set", 1)], [("build", -1)]])

    def test_products_and_lines_of_calls(self):
        """[1]: a later call changes an earlier product, a product has what another line has put in."""
        kind = samples.shares()
        run = Run(kind, [("make",), ("build", 0), ("add", 0, "x"), ("build", 0)])
        self.assertEqual((run.made(1), run.things()[1]), ([[]], ("product", [["x"]])))
        self.assertEqual(run.made(3), [["x"]])
        self.assertIs(is_broken("own", run), True)

    def test_few_standings_decide_all_programs(self):
        """[2]"""
        kind = samples.shares().own("build", "a")
        verdict, standings = judge(kind, "steady")
        self.assertEqual(verdict, "holds")
        self.assertLess(len(standings), 40)
        rows = [("make",)] + [row for k in range(0, 290, 2) for row in (("build", 0), ("add", k, "x"))]
        self.assertIs(is_broken("steady", Run(kind, rows)), False)

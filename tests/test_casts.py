"""That few rows in view are enough, and few places are come to."""

import random
import unittest

import samples
import trials
from makerlines.casts import Casts, choices_of
from makerlines.lets import Lets
from makerlines.likes import idled
from makerlines.modes import modes_ahead_of, with_least_modes
from makerlines.pairs import Pairs
from makerlines.searches import explore

MOST_OTHERS = 4


class WideCasts(Casts):
    """With more rows in view, and also with those that can do nothing more."""

    def __init__(self, one, other, field, callers):
        Casts.__init__(self, one, other, field, callers)
        self.ending = self.changing = [True] * one.modes

    def choices(self, first, others):
        return choices_of(others, min(len(others), MOST_OTHERS))


class Few(unittest.TestCase):
    """[27], [28]"""

    def assert_enough(self, one, other, callers, idle=None):
        labels = explore(Lets(one, other, callers, idle))[0]
        most = None if labels is None else len(labels) - 1
        pairs, wide = Pairs(with_least_modes(one), other, callers), Pairs(one, other, callers)
        wide.casts = [WideCasts(one, other, name, callers) for name, sort, need in one.fields()]
        shown, places = explore(pairs, most)
        shown_by_all, all_places = explore(wide, most)
        self.assertEqual(shown is None, shown_by_all is None, (one.text(), other.text(), callers))
        if shown is not None:
            self.assertEqual(len(shown), len(shown_by_all), (one.text(), other.text(), callers))
        return len(places), len(all_places)

    def test_more_rows_in_view_change_nothing(self):
        for make, many in ((trials.small_kind, 200), (trials.role_kind, 120)):
            for seed in range(many):
                rng = random.Random(seed)
                one = make(rng)
                other = trials.twin_of(rng, one)
                for callers in ("forks", "onward"):
                    self.assert_enough(one, other, callers)

    def test_more_rows_in_view_change_nothing_for_an_idle_call(self):
        for seed in range(60):
            kind = trials.role_kind(random.Random(seed))
            for name in kind:
                if kind[name][1] != "last" and explore(Lets(kind, idled(kind, name), "forks", name))[0] is None:
                    self.assert_enough(kind, idled(kind, name), "forks", name)

    def test_few_places(self):
        for one, other in (
            (samples.parts("self"), samples.parts("new")),
            (samples.parts_late("self"), samples.parts_late("new")),
            (samples.goes(["a"]), samples.goes([])),
        ):
            for pair in ((one, other), (other, one)):
                few, many = self.assert_enough(*pair, "forks")
                self.assertLess(few, 50)
                self.assertGreater(many, 4 * few)

    def test_modes_ahead(self):
        kind = samples.parts("self")
        self.assertEqual(modes_ahead_of(kind, ["end"]), [True, True, False, False])
        self.assertEqual(modes_ahead_of(kind, ["bring"]), [True, False, False, True])
        self.assertEqual(modes_ahead_of(kind, []), [False] * 4)
        self.assertEqual(modes_ahead_of(kind, ["renew", "bring"]), [True] * 4)
        self.assertEqual(modes_ahead_of(samples.parts_late("self"), ["end"]), [True, False, False, False])


if __name__ == "__main__":
    unittest.main()

"""Which rows count behind each call of two kinds that let in the same calls, for one field.

The list that counts in each kind, the list in view, is the one that the first row's maker holds,
or the product's if one is kept; in a field of sort "one" makers stand in the place of lists. Two
lists that are not the same will never be the same, so a row counts just if it holds the list in
view in one of the kinds. Whether a call on a row is let in hangs on the calls on that very row:
one on a row with the same maker in one kind alone changes the mode there and not in the other
kind, so it comes to a mode that lets in the same calls.

Thus an unlike product stays unlike if all is left out of a program but the lines of these rows:

- the first row, until its product is made;
- in each kind, the row of the last call that sets what is in view there, until this call;
- a row that has its maker, in one kind alone, in common with the first row or with the one of the
  later of those two calls, until a call on it gives this maker a fresh list. Without that, the
  later call might set in both kinds what it is to set in one.

So a first row whose line can end in no product is left aside, and so is another row as soon as
no call on its line can set or part what is in view.
"""

from makerlines.behinds import ALONE, IN_VIEW, NOWHERE, Behind, with_numbers
from makerlines.marks import act_pairs_in
from makerlines.modes import modes_ahead_of

# Beside the first row; one more of rows that share a maker, as told above.
MOST_OTHERS = 2


class Casts:
    """What calls of two kinds make of the casts of a field.

    A cast is (is_kept, rows), with the first row ahead if no product is kept. A row is (mode,
    maker, maker), with its makers in the two kinds: NOWHERE for one that does not hold the list
    in view, a number from 1 on for one that several rows share, ALONE for any other one. All are
    alone in a kind in which no call gives a fresh list: sharing counts for nothing there.
    """

    def __init__(self, one, other, field, callers):
        self.is_forked = callers == "forks"
        self.acts = {}
        for pair in act_pairs_in(one, other, field):
            self.acts.setdefault(pair[0].name, []).append(pair)
        self.ending = modes_ahead_of(one, [name for name in one if one.table[name][1] == "last"])
        self.changing = modes_ahead_of(one, [name for name in one if changes(self.acts[name])])
        self.has_fresh = [any([pairs[0][side].fresh for pairs in self.acts.values()]) for side in (0, 1)]
        self.known = {}

    def has_word(self):
        """Tell whether the field can ever have the word."""
        return any([act.very or act.held for pairs in self.acts.values() for pair in pairs for act in pair])

    def turns(self, cast):
        """Return what calls make of a cast: (label, cast, mark, mark), the marks of the lists in view then."""
        if cast not in self.known:
            self.known[cast] = self.turns_from(cast)
        return self.known[cast]

    def turns_from(self, cast):
        """Return what calls make of a cast, what comes to the same once."""
        is_kept, rows = cast
        labels = {}
        for number, row in enumerate(rows):
            for name, pairs in self.acts.items():
                if pairs[0][0].moves[row[0]] != -1:
                    behind = Behind(is_kept, with_numbers(rows), number, pairs[0])
                    for carried, reached, lists in self.casts_behind(behind):
                        for pair in pairs:
                            turn = (reached, *behind.marks(pair, lists))
                            labels.setdefault(turn, (name, pair[0].word, number, carried))
        return [(label, *turn) for turn, label in labels.items()]

    def casts_behind(self, behind):
        """Return the casts that a call leads to: (numbers that the rows had, cast, lists in view)."""
        found = []
        if behind.makes_first_product():
            lists = behind.lists_of(behind.numbered[0])
            rows = behind.rows_with(behind.numbered, behind.lists_of_product())
            found.extend([(*told, lists) for told in self.casts_of(rows, True)])
        for going_on in behind.ways(self.is_forked):
            lists = (IN_VIEW, IN_VIEW) if behind.is_kept else behind.lists_of(going_on[0])
            rows = behind.rows_with(going_on, lists)
            found.extend([(*told, lists) for told in self.casts_of(rows, behind.is_kept)])
        return found

    def casts_of(self, rows, is_kept):
        """Return the casts of those of these rows that count, as pairs (numbers that the rows had, cast)."""
        first = [] if is_kept else rows[:1]
        if not is_kept and not self.ending[first[0][1]]:
            return []
        others = [row for row in rows[len(first):] if self.changing[row[1]]]
        return [self.cast_of(first, some) for some in self.choices(first, others)]

    def choices(self, first, others):
        """Return the choices of other rows that count at once, each with as many as can be."""
        if len(others) <= MOST_OTHERS:
            return [others]
        most = [some for some in choices_of(others, MOST_OTHERS + 1) if self.is_shared([*first, *some])]
        for few in choices_of(others, MOST_OTHERS):
            if not any([all([row in some for row in few]) for some in most]):
                most = [*most, few]
        return most

    def is_shared(self, rows):
        """Tell whether some of these rows share a maker in a kind in which calls give fresh lists."""
        return any([self.has_fresh[side] and len(shared([row[2 + side] for row in rows])) > 0 for side in (0, 1)])

    def cast_of(self, first, others):
        """Return the numbers that these rows had, in the order of the cast, and the cast."""
        rows = [*first, *others]
        makers = [self.told([row[2 + side] for row in rows], side) for side in (0, 1)]
        keyed = [(row[1], makers[0][at], makers[1][at], row[0]) for at, row in enumerate(rows)]
        keyed = [*keyed[:len(first)], *sorted(keyed[len(first):])]
        cast = (len(first) == 0, tuple([row[:3] for row in keyed]))
        return tuple([row[3] for row in keyed]), cast

    def told(self, makers, side):
        """Return the makers of rows, the first row ahead, as a cast tells them.

        Four rows, or three without a first one, share at most two makers, and if two, the first
        row has one of them. So the numbers do not hang on the order of the other rows.
        """
        several = shared(makers) if self.has_fresh[side] else []
        numbers = {maker: at + 1 for at, maker in enumerate(several)}
        return [NOWHERE if maker == NOWHERE else numbers.get(maker, ALONE) for maker in makers]


def changes(pairs):
    """Tell whether a call on another row can change what the first row's maker holds."""
    return any([act.fresh or act.very is not None for pair in pairs for act in pair])


def choices_of(rows, many):
    """Return all choices of this many rows, in their order."""
    if many == 0:
        return [[]]
    found = []
    for at in range(len(rows) - many + 1):
        found.extend([[rows[at], *rest] for rest in choices_of(rows[at + 1:], many - 1)])
    return found


def shared(makers):
    """Return the makers in view at which there are several rows, each once."""
    return list({maker: True for maker in makers if maker != NOWHERE and makers.count(maker) > 1})

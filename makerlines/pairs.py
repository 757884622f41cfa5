"""Whether products differ in two kinds that let in the same calls.

For one field and one word. The list that counts in each kind, the list in view, is the one that
the first row's maker holds, or the product's if one is kept. Two lists that are not the same
will never be the same, so a row counts just if it holds the list in view in one of the kinds.
And since both kinds let in the same calls, modes are asked of the first kind alone.
"""

from makerlines.marks import act_pairs_in, touched
from makerlines.searches import MOST_IN_VIEW

IN_VIEW = 0
OF_ITS_OWN = 1
NOWHERE = -1


class Pairs:
    """The walk over what two kinds make of the same rows; what it shows is an unlike product.

    A place is (field, is_kept, content, content, makers, rows): the contents of the lists in
    view, or for a field of sort "one" of the makers in view; the makers of the first kind, as
    pairs (mode, is_in_view); the rows, the first row ahead, as pairs of the number of a maker of
    the first kind and that of one of the second kind, NOWHERE for one that is not in view.
    """

    def __init__(self, one, other, callers):
        self.is_forked = callers == "forks"
        self.acts = [act_pairs_in(one, other, name) for name, sort, need in one.triples]

    def starts(self):
        """Return the places of new makers, for the fields that can ever have the word."""
        starts = []
        for field, pairs in enumerate(self.acts):
            if any([act.very or act.held for pair in pairs for act in pair]):
                starts.append((field, False, 0, 0, ((0, True),), ((0, 0),)))
        return starts

    def ways(self, place):
        """Return the steps, with None where a product differs."""
        field, is_kept, content, content_other, makers, rows = place
        found = []
        for number, (spot, spot_other) in enumerate(rows):
            for one, other in self.acts[field]:
                if one.moves[makers[spot][0]] != -1:
                    behind = Behind(place, number, one, other)
                    for carried, reached in self.reached(behind):
                        found.append(((one.name, one.word, number, carried), reached))
        return found

    def reached(self, behind):
        """Return where a call leads: the rows in view, and the place, or None where it shows something."""
        if behind.is_unlike():
            return [((), None)]
        found = []
        if behind.makes_first_product() and (behind.act.shares or behind.act_other.shares):
            view = [
                hold if act.shares else NOWHERE
                for hold, act in zip(behind.view_of(behind.numbered[0]), (behind.act, behind.act_other))
            ]
            found.extend(behind.places(behind.numbered, True, view))
        for rows in behind.rows_behind(self.is_forked):
            view = (IN_VIEW, IN_VIEW) if behind.is_kept else behind.view_of(rows[0])
            found.extend(behind.places(rows, behind.is_kept, view))
        return found


class Side:
    """One kind behind a call: which list each of its makers holds, and what the lists are left with."""

    def __init__(self, act, content, holds, spot):
        self.insides = (content, content)
        self.holds = list(holds)
        self.spot = spot
        hold = NOWHERE if spot == NOWHERE else holds[spot]
        if hold == IN_VIEW:
            very, is_held, held = touched(act, content)
            self.insides = (very, held)
            hold = IN_VIEW if is_held else OF_ITS_OWN
        if act.hand == "new":
            self.spot = len(holds)
            self.holds.append(hold)
        elif spot != NOWHERE:
            self.holds[spot] = hold

    def is_seen(self, spot, hold):
        """Tell whether the maker with this number holds this list."""
        return spot != NOWHERE and hold != NOWHERE and self.holds[spot] == hold


class Behind:
    """What there is behind a call of both kinds on the row with this number."""

    def __init__(self, place, number, one, other):
        self.field, self.is_kept, content, content_other, makers, rows = place
        self.number = number
        self.act = one
        self.act_other = other
        self.numbered = [(k, *rows[k]) for k in range(len(rows))]
        spot, spot_other = rows[number]
        self.left = Side(one, content, [IN_VIEW if is_in else NOWHERE for mode, is_in in makers], spot)
        many = max([row[1] for row in rows]) + 1
        self.right = Side(other, content_other, [IN_VIEW] * many, spot_other)
        moved = one.moves[makers[spot][0]]
        self.modes = [mode for mode, is_in in makers]
        if one.hand == "new":
            self.modes.append(moved)
        else:
            self.modes[spot] = moved

    def makes_first_product(self):
        """Tell whether a product has been made on the first row that can be kept."""
        return self.act.hand == "last" and self.number == 0 and not self.is_kept

    def view_of(self, row):
        """Return which lists the two makers of a row hold."""
        return (self.left.holds[row[1]], self.right.holds[row[2]])

    def is_unlike(self):
        """Tell whether a product differs that is kept, or has been made on the first row."""
        if self.is_kept:
            return self.left.insides[IN_VIEW] != self.right.insides[IN_VIEW]
        if not self.makes_first_product():
            return False
        hold, hold_other = self.view_of(self.numbered[0])
        return self.left.insides[hold] != self.right.insides[hold_other]

    def rows_behind(self, is_forked):
        """Return in all ways the rows that callers can go on with, the first row ahead."""
        if self.act.hand == "last":
            return [self.numbered]
        handed = (-1, self.left.spot, self.right.spot)
        if not is_forked:
            return [[handed]]
        if handed[1:] == self.numbered[self.number][1:]:
            return [self.numbered]
        if self.number == 0 and not self.is_kept:
            return [[handed, *self.numbered], [*self.numbered, handed]]
        return [[*self.numbered, handed]]

    def places(self, rows, is_kept, view):
        """Return the places with these lists in view: the rows in view with each, and the place.

        As many rows are kept in view as count, chosen in every way.
        """
        seen = self.seen_rows(rows, view)
        if is_kept and len(seen) == 0:
            return []
        first = [] if is_kept else seen[:1]
        others = seen[len(first):]
        if len(seen) <= MOST_IN_VIEW:
            return [self.place_of(first, others, is_kept, view)]
        return [
            self.place_of(first, [*others[:at], *others[at + 1:]], is_kept, view)
            for at in range(len(others))
        ]

    def seen_rows(self, rows, view):
        """Return the rows that hold a list in view, each once, with NOWHERE for makers that do not count."""
        seen = []
        known = []
        for origin, spot, spot_other in rows:
            if not self.right.is_seen(spot_other, view[1]):
                spot_other = NOWHERE
            if spot_other == NOWHERE and not self.left.is_seen(spot, view[0]):
                continue
            if (spot, spot_other) not in known:
                known.append((spot, spot_other))
                seen.append((origin, spot, spot_other))
        return seen

    def place_of(self, first, others, is_kept, view):
        """Return the numbers that these rows had, in the order of the place, and the place."""
        keyed = sorted([(self.key_of(row, first, others, view), row) for row in others])
        rows = [*first, *[row for key, row in keyed]]
        spots = once_each([spot for origin, spot, spot_other in rows])
        spots_other = once_each([spot_other for origin, spot, spot_other in rows if spot_other != NOWHERE])
        makers = tuple([(self.modes[spot], self.left.is_seen(spot, view[0])) for spot in spots])
        pairs = tuple([
            (spots.index(spot), NOWHERE if spot_other == NOWHERE else spots_other.index(spot_other))
            for origin, spot, spot_other in rows
        ])
        content, content_other = self.insides_in(view)
        place = (self.field, is_kept, content, content_other, makers, pairs)
        return (tuple([row[0] for row in rows]), place)

    def key_of(self, row, first, others, view):
        """Return what tells a row from most others, whichever numbers makers have."""
        origin, spot, spot_other = row
        with_first = [(spot == other[1], spot_other == other[2]) for other in first]
        same = sum([int(spot == other[1]) for other in others])
        same_other = 0 if spot_other == NOWHERE else sum([int(spot_other == other[2]) for other in others])
        return (self.modes[spot], self.left.is_seen(spot, view[0]), with_first, same, same_other)

    def insides_in(self, view):
        """Return what the lists in view hold; a product's own one holds what the other one does."""
        if view[0] == NOWHERE:
            content = self.right.insides[view[1]]
            return content, content
        content = self.left.insides[view[0]]
        return content, content if view[1] == NOWHERE else self.right.insides[view[1]]


def once_each(numbers):
    """Return the numbers in their order, each once."""
    return list({number: True for number in numbers})

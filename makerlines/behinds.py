"""What there is behind a call on one of the rows of a cast."""

NOWHERE = -1
ALONE = 0

# The lists that there are behind a call.
IN_VIEW = 0
OF_ITS_OWN = 1

# Numbers of makers behind a call: each that was ALONE has one from the first on, the one that is made has the other.
FIRST_ALONE = 10
MADE = 20


class Side:
    """A call on a maker in one of two kinds; the maker is NOWHERE if it does not hold the list in view."""

    def __init__(self, act, maker):
        self.maker = maker
        self.handed = MADE if act.hand == "new" and maker != NOWHERE else maker
        self.apart = self.handed if act.is_apart else NOWHERE

    def list_of(self, maker):
        """Return which list a maker holds that is not NOWHERE."""
        return OF_ITS_OWN if maker == self.apart else IN_VIEW

    def mark(self, act, in_view):
        """Return the mark of the list that is in view now."""
        if self.maker == NOWHERE:
            return None
        return act.held if in_view == OF_ITS_OWN else act.very


class Behind:
    """What there is behind a call on the row with this number.

    A row is (number that it had, mode, maker, maker), with -1 for the number of the row of the call.
    """

    def __init__(self, is_kept, rows, number, pair):
        one, other = pair
        origin, mode, maker, maker_other = rows[number]
        self.is_kept = is_kept
        self.number = number
        self.pair = pair
        self.left = Side(one, maker)
        self.right = Side(other, maker_other)
        moved = one.moves[mode]
        self.handed = (-1, moved, self.left.handed, self.right.handed)
        self.numbered = list(rows)
        if one.hand != "new":
            self.numbered[number] = (origin, moved, maker, maker_other)

    def makes_first_product(self):
        """Tell whether a product has been made on the first row that can be kept."""
        return self.pair[0].hand == "last" and self.number == 0 and not self.is_kept

    def ways(self, is_forked):
        """Return in all ways the rows that callers can go on with, the first row ahead."""
        one, other = self.pair
        if one.hand == "last":
            return [self.numbered]
        if not is_forked:
            return [[self.handed]]
        if one.hand == "self" and other.hand == "self":
            return [self.numbered]
        if self.number == 0 and not self.is_kept:
            return [[self.handed, *self.numbered], [*self.numbered, self.handed]]
        return [[*self.numbered, self.handed]]

    def lists_of(self, row):
        """Return which lists the makers of a row hold."""
        return (self.left.list_of(row[2]), self.right.list_of(row[3]))

    def lists_of_product(self):
        """Return which lists a product of the first row holds, NOWHERE for those that are no maker's."""
        lists = self.lists_of(self.numbered[0])
        return [in_view if act.shares else NOWHERE for in_view, act in zip(lists, self.pair)]

    def rows_with(self, rows, lists):
        """Return the rows of which a maker holds its one of these lists, with NOWHERE for a maker that does not."""
        seen = {}
        for origin, mode, maker, maker_other in rows:
            if self.left.list_of(maker) != lists[0]:
                maker = NOWHERE
            if self.right.list_of(maker_other) != lists[1]:
                maker_other = NOWHERE
            if maker != NOWHERE or maker_other != NOWHERE:
                seen.setdefault((mode, maker, maker_other), origin)
        return [(origin, *row) for row, origin in seen.items()]

    def marks(self, pair, lists):
        """Return the marks of the lists that are in view now, for acts that differ in their word alone."""
        return (self.left.mark(pair[0], lists[0]), self.right.mark(pair[1], lists[1]))


def with_numbers(rows):
    """Return the rows of a cast as rows with numbers, and with a number for each maker that holds the list in view."""
    return [
        (at, mode, maker_number(maker, at), maker_number(maker_other, at))
        for at, (mode, maker, maker_other) in enumerate(rows)
    ]


def maker_number(maker, at):
    """Return the number of a maker of the row at this place."""
    return FIRST_ALONE + at if maker == ALONE else maker

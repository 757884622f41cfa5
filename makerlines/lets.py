"""Whether two kinds ever let in unlike calls, and by how few calls callers can see it.

Only modes tell. It is seen on a row, the first row here, whose makers have come to unlike modes.
Of all other rows only those count that have the maker of the first row in one of the two kinds
alone, the rows aside: a call on them changes the one maker and not the other.
"""


class Lets:
    """The walk of a first row's makers in two kinds; what it shows is that one alone lets in a call.

    A place is (mode, mode, is_aside, is_aside): the modes of the two makers, and for each
    whether there is a row aside with it. With the name of an idle call, its rows are not
    compared, and in the second kind they are never refused.
    """

    def __init__(self, one, other, callers, idle=None):
        self.pairs = [(call, other.table[call[0]]) for call in one.steps]
        self.words = {call[0]: 1 if one.takes(call[0]) else 0 for call in one.steps}
        self.is_forked = callers == "forks"
        self.idle = idle

    def starts(self):
        """Return the place of a new maker."""
        return [(0, 0, False, False)]

    def ways(self, place):
        """Return the steps, with None where one kind alone lets in the call."""
        found = []
        for one, other in self.pairs:
            told = [*self.on_first(one, other, place), *on_aside(one, other, place)]
            for number, carried, reached in told:
                found.append(((one[0], self.words[one[0]], number, carried), reached))
        return found

    def on_first(self, one, other, place):
        """Return where a call on the first row leads: the row, the rows in view, the place."""
        mode, mode_other, aside, aside_other = place
        moved, moved_other = one[2][mode], other[2][mode_other]
        if self.is_unlike(one[0], moved, moved_other, mode_other):
            return [(0, (), None)]
        if moved == -1:
            return []
        if one[1] == "last":
            return [(0, (0, 1, 2), (moved, moved_other, aside, aside_other))]
        is_new, is_new_other = one[1] == "new", other[1] == "new"
        behind = not is_new and (aside or (is_new_other and self.is_forked))
        behind_other = not is_new_other and (aside_other or (is_new and self.is_forked))
        carried = (-1, 0 if is_new_other else 1, 0 if is_new else 2)
        found = [(0, carried, (moved, moved_other, behind, behind_other))]
        if self.is_forked and is_new and not is_new_other:
            found.append((0, (0, 1, -1), (mode, moved_other, aside, True)))
        if self.is_forked and is_new_other and not is_new:
            found.append((0, (0, -1, 2), (moved, mode_other, True, aside_other)))
        return found

    def is_unlike(self, name, moved, moved_other, mode_other):
        """Tell whether a call that comes to these modes shows, by itself or behind it, that the kinds differ."""
        if name != self.idle:
            return (moved == -1) != (moved_other == -1)
        # A refused row of an idle call hands nothing in the first kind, but a maker in the second one.
        others = [other for one, other in self.pairs if one[0] != name]
        return moved == -1 and any([other[2][mode_other] != -1 for other in others])


def on_aside(one, other, place):
    """Return where a call on the rows aside leads that changes a maker of the first row."""
    mode, mode_other, aside, aside_other = place
    found = []
    if aside and one[1] != "new" and one[2][mode] != -1:
        found.append((1, (0, 1, 2), (one[2][mode], mode_other, aside, aside_other)))
    if aside_other and other[1] != "new" and other[2][mode_other] != -1:
        found.append((2, (0, 1, 2), (mode, other[2][mode_other], aside, aside_other)))
    return found

"""Whether a wish can be broken in one field, by far fewer places than there are standings.

Two lists that are not the same will never be the same. So of all makers but the first line's
only those count that hold its very list (or, when a product is kept, the product's list), and
of them only the modes; and a maker that can be kept in view is never left out of it.
"""

from makerlines.marks import acts_in, marked, touched

# Beside the first line there are that of who brings the word and that of who takes it out.
MOST_OTHERS = 2
MOST_SHARERS = 3
KEPT = -1


class Sharers:
    """The walk of a first line's maker and of the makers that hold its list, in one field.

    A place is (seen, mode, content, others): for "own" what is seen of the first line's own
    value, the mode of its maker, what it holds, and the modes of the others that hold the very
    list. When a product is kept, the mode is KEPT, and others hold the product's list.
    """

    def __init__(self, kind, wish, callers, field):
        self.is_own = wish == "own"
        self.is_forked = callers == "forks"
        self.acts = acts_in(kind, field)

    def starts(self):
        """Return the place of a new maker."""
        return [((0, 0) if self.is_own else None, 0, 0, ())]

    def ways(self, place):
        """Return the steps, with labels that tell nothing, and None where the wish is broken."""
        found = []
        for act in self.acts:
            if place[1] != KEPT:
                found.extend(self.ways_of_first(act, place))
            found.extend(self.ways_of_others(act, place))
        return [(None, reached) for reached in found]

    def ways_of_others(self, act, place):
        """Return where an act on one of the others leads."""
        seen, mode, content, others = place
        very, is_held, held = touched(act, content)
        found = []
        for at, other in enumerate(others):
            if act.moves[other] == -1:
                continue
            if mode == KEPT and very != content:
                return [None]
            stays = act.hand == "new" and self.is_forked
            behind = others if stays else (*others[:at], *others[at + 1:])
            if is_held:
                behind = (*behind, act.moves[other])
            found.extend(places(seen, mode, very, behind))
        return found

    def ways_of_first(self, act, place):
        """Return where an act on the first line's maker leads."""
        seen, mode, content, others = place
        moved = act.moves[mode]
        own = None
        if self.is_own:
            own = (act.moves[seen[0]], marked(seen[1], act.held))
            if is_unlike(act, moved, content, own):
                return [None]
        if moved == -1:
            return []
        if act.hand == "last":
            return [*gone_along(act, moved, seen, content, others), *self.with_kept(act, moved, content, others)]
        # The maker that a new one leaves behind is one of the others, unless callers forget it.
        behind = (*others, mode) if act.hand == "new" and self.is_forked else others
        found = gone_along(act, moved, own, content, behind)
        if self.is_forked:
            found.extend(left_behind(act, moved, place))
        return found

    def with_kept(self, act, moved, content, others):
        """Return where a call leads that makes a product which is kept."""
        if self.is_own or not act.shares:
            return []
        very, is_held, held = touched(act, content)
        return places(None, KEPT, held, (*others, moved) if is_held else (moved,))


def is_unlike(act, moved, content, own):
    """Tell whether an act that comes to these modes shows that the maker is not as its own value."""
    if moved == -1 or own[0] == -1:
        return moved != own[0]
    return act.hand == "last" and touched(act, content)[2] != own[1]


def gone_along(act, moved, seen, content, others):
    """Return where an act leads with which the first line goes along, when these others hold its list."""
    very, is_held, held = touched(act, content)
    return places(seen, moved, very, others) if is_held else places(seen, moved, held, ())


def left_behind(act, moved, place):
    """Return where an act on its maker leads that has no part in the first line."""
    seen, mode, content, others = place
    if act.hand == "self":
        return gone_along(act, moved, seen, content, others)
    very, is_held, held = touched(act, content)
    return places(seen, mode, very, (*others, moved) if is_held else others)


def places(seen, mode, content, others):
    """Return the places with these others: as many of them as count, chosen in every way."""
    if mode == KEPT and len(others) == 0:
        return []
    if len(others) > (MOST_SHARERS if mode == KEPT else MOST_OTHERS):
        chosen = [(*others[:at], *others[at + 1:]) for at in range(len(others))]
    else:
        chosen = [others]
    return [(seen, mode, content, tuple(sorted(kept))) for kept in chosen]

"""The standings of a kind, and their steps: a closed table for all programs of callers."""

from makerlines.marks import ANOTHER, THE_WORD, acts_in, marked

LINES = (0, 1, 2)
PARTS = {
    (0,): ((0,), ()),
    (1,): ((1,), ()),
    (2,): ((2,), ()),
    (0, 1): ((0, 1), (0,), (1,), ()),
    (0, 2): ((0, 2), (0,), (2,), ()),
    (1, 2): ((1, 2), (1,), (2,), ()),
    (0, 1, 2): ((0, 1, 2), (0, 1), (0, 2), (1, 2), (0,), (1,), (2,), ()),
}


class Scene:
    """A standing, read: the makers as pairs (mode, content), and the number of the maker of each line."""

    def __init__(self, standing):
        self.field, self.seen, first, second, third, self.kept, self.lists = standing
        self.makers = [first]
        self.spots = [0]
        for told in (second, third):
            if not isinstance(told, tuple):
                self.spots.append(told)
            else:
                self.spots.append(len(self.makers))
                self.makers.append(told)

    def lines_at(self, spot):
        """Return the lines that are at this maker."""
        return tuple([line for line in LINES if self.spots[line] == spot])


def standing_of(field, seen, makers, spots, kept, lists):
    """Return the standing with these makers, spots of lines and lists, some of which nobody may hold now."""
    order = []
    for spot in spots:
        if spot not in order:
            order.append(spot)
    told = [makers[spot] for spot in order]
    if len(lists) > 0:
        numbers = []
        for number in [content for mode, content in told]:
            if number not in numbers:
                numbers.append(number)
        if kept is not None:
            if kept not in numbers:
                numbers.append(kept)
            kept = numbers.index(kept)
        told = [(mode, numbers.index(content)) for mode, content in told]
        lists = tuple([lists[number] for number in numbers])
    second, third = [order.index(spot) for spot in spots[1:]]
    # A line is told by a pair where it is the first one at its maker.
    if third > second:
        third = told[third]
    if second > 0:
        second = told[second]
    return (field, seen, told[0], second, third, kept, lists)


class Standings:
    """The walk over the standings of a kind, for a wish and callers; what it shows is that the wish is broken."""

    def __init__(self, kind, wish, callers):
        self.triples = kind.triples
        self.wish = wish
        self.is_forked = callers == "forks"
        words = (THE_WORD,) if wish == "complete" else (THE_WORD, ANOTHER)
        self.acts = [acts_in(kind, name, words) for name, sort, need in self.triples]

    def starts(self):
        """Return the first standings of all fields for which there are standings."""
        seen = (0, 0) if self.wish == "own" else None
        starts = []
        for field, (name, sort, need) in enumerate(self.triples):
            if sort == "many" or self.wish != "steady":
                starts.append((field, seen, (0, 0), 0, 0, None, (0,) if sort == "many" else ()))
        return starts

    def ways(self, standing):
        """Return the steps of a standing, with None for a standing where the call breaks the wish."""
        scene = Scene(standing)
        found = []
        for spot in range(len(scene.makers)):
            lines = scene.lines_at(spot)
            for act in self.acts[scene.field]:
                found.extend(self.ways_of(scene, spot, lines, act))
        return found

    def ways_of(self, scene, spot, lines, act):
        """Return the steps of one act on a maker at which these lines are."""
        mode, content = scene.makers[spot]
        mode = act.moves[mode]
        content, lists = done_on(act, content, scene.lists)
        found = []
        for along in self.parties(act, lines):
            number = along[0] if len(along) > 0 else lines[0]
            label = (act.name, act.word, number, carried_by(act, along))
            own = self.own_behind(scene, act, along)
            if self.is_break(scene, act, own, mode, content, lists):
                found.append((label, None))
            elif mode != -1:
                for seen, kept in self.views(scene, act, own, content, lists):
                    behind = changed(act, scene, spot, (mode, content), along)
                    found.append((label, standing_of(scene.field, seen, *behind, kept, lists)))
        return found

    def parties(self, act, lines):
        """Return the ways in which lines at a maker can go along, but for those that come to the same."""
        if not self.is_forked:
            return (LINES,)
        if act.hand == "new":
            return PARTS[lines]
        if act.hand == "self" and self.wish == "own" and lines[0] == 0:
            return (lines, lines[1:])
        return (lines,)

    def own_behind(self, scene, act, along):
        """Return what the first line's own value is behind the deeds, None if it has no part in the call."""
        if self.wish != "own" or 0 not in along:
            return None
        mode, content = scene.seen
        return (act.moves[mode], marked(content, act.held))

    def is_break(self, scene, act, own, mode, content, lists):
        """Tell whether a call breaks the wish that leaves the maker with this mode and content."""
        if own is not None:
            if mode == -1 or own[0] == -1:
                return mode != own[0]
            return act.hand == "last" and word_in(content, lists) != own[1]
        if mode == -1:
            return False
        if self.wish == "complete":
            need = self.triples[scene.field][2]
            return act.hand == "last" and need and word_in(content, lists) == 0
        return scene.kept is not None and lists[scene.kept] != scene.seen

    def views(self, scene, act, own, content, lists):
        """Return what can be seen and kept behind a call, as pairs."""
        if own is not None and act.hand != "last":
            return ((own, None),)
        if self.wish == "steady" and scene.kept is None and act.hand == "last" and act.shares:
            return ((None, None), (lists[content], content))
        return ((scene.seen, scene.kept),)


def done_on(act, content, lists):
    """Return the content of the maker that an act changes or makes, and the lists, behind the deeds."""
    if len(lists) == 0:
        return marked(content, act.held), lists
    held = marked(lists[content], act.held)
    if act.very is not None:
        lists = (*lists[:content], act.very, *lists[content + 1:])
    if act.is_apart:
        return len(lists), (*lists, held)
    return content, lists


def word_in(content, lists):
    """Return the content itself for a field of sort "one", otherwise 1 if its list holds the word."""
    return lists[content] if len(lists) > 0 else content


def carried_by(act, along):
    """Return for each line its own number, or -1 if it is at what the call hands."""
    if act.hand == "last":
        return LINES
    return tuple([-1 if line in along else line for line in LINES])


def changed(act, scene, spot, maker, along):
    """Return the makers and the spots of the lines behind an act that has left or made this maker."""
    if act.hand != "new":
        return [*scene.makers[:spot], maker, *scene.makers[spot + 1:]], scene.spots
    makers = [*scene.makers, maker]
    return makers, [len(scene.makers) if line in along else scene.spots[line] for line in LINES]

"""Rows of calls: done as chains, as statements, and with two neighbours exchanged."""

from makerlines.marks import ANOTHER, NO_WORD, THE_WORD, WORDS, acts_in, marked, touched

GONE = -1
# The calls around two neighbours have a word of their own, since it never matters which one.
THIRD_WORD = 3


def moved(moves, mode):
    """Return the mode to which a call leads, GONE if it or one ahead of it is refused."""
    return GONE if mode == GONE else moves[mode]


def item_of(name, word):
    """Return the item of a row of calls with this call and word."""
    return (name,) if word == NO_WORD else (name, WORDS[word])


class Styles:
    """The walk of the same calls as a chain and as statements, in one field and with one word.

    A place is (field, mode, content, mode, content), of the chain's present maker and of the
    first maker. A label is an item of the row; what is shown is that the products differ, or
    that there is one in one way alone.
    """

    def __init__(self, kind):
        self.acts = [acts_in(kind, name) for name, sort, need in kind.triples]

    def starts(self):
        """Return the places of new makers."""
        return [(field, 0, 0, 0, 0) for field in range(len(self.acts))]

    def ways(self, place):
        """Return the steps, with None where a last call shows something."""
        field, mode, content, mode_first, content_first = place
        found = []
        for act in self.acts[field]:
            chained = moved(act.moves, mode)
            stated = moved(act.moves, mode_first)
            if chained == GONE and stated == GONE:
                continue
            held = marked(content, act.held)
            very, is_held, held_first = touched(act, content_first)
            reached = (field, chained, held, stated, held_first)
            if act.hand == "new":
                reached = (field, chained, held, GONE if stated == GONE else mode_first, very)
            if act.hand != "last":
                found.append((item_of(act.name, act.word), reached))
            elif chained == GONE or stated == GONE or held != held_first:
                found.append((item_of(act.name, act.word), None))
        return found


class Exchanges:
    """The walk of two chains that are the same but for two neighbours, which are exchanged in one.

    A place is (chain,) ahead of the two, (chain, word, word) between them, with their words, and
    (chain, chain) behind them. A chain is a pair (mode, contents), and only the words of the
    two neighbours are told in its lists: whatever else is there is the same in both. A label is
    a pair of items, one of each row; what is shown is as in Styles.
    """

    def __init__(self, kind, one, other):
        self.kind = kind
        self.neighbours = (one, other)

    def starts(self):
        """Return the place of a new maker."""
        return [((0, tuple([NO_WORD if sort == "one" else () for name, sort, need in self.kind.triples])),)]

    def ways(self, place):
        """Return the steps, with None where a last call shows something."""
        if len(place) == 3:
            return self.ways_between(*place)
        found = [] if len(place) == 2 else self.ways_to_two(place[0])
        for call in self.kind.steps:
            word = THIRD_WORD if self.kind.takes(call[0]) else NO_WORD
            label = (item_of(call[0], word), item_of(call[0], word))
            reached = tuple([self.chain_behind(chain, call, word) for chain in place])
            if call[1] != "last":
                found.extend([] if is_settled(reached) else [(label, reached)])
            elif reached[0][1] != reached[-1][1]:
                found.append((label, None))
        return found

    def ways_to_two(self, chain):
        """Return the steps to between the two neighbours, with each two words that can matter."""
        one, other = [THE_WORD if self.kind.takes(name) else NO_WORD for name in self.neighbours]
        found = []
        for second in (THE_WORD, ANOTHER) if one == other == THE_WORD else (other,):
            label = (self.item(0, one), self.item(1, second))
            found.append((label, (chain, one, second)))
        return found

    def ways_between(self, chain, first, second):
        """Return the step to behind the two neighbours, if it can show anything."""
        one, other = [self.kind.table[name] for name in self.neighbours]
        chain_one = self.chain_behind(self.chain_behind(chain, one, first), other, second)
        chain_other = self.chain_behind(self.chain_behind(chain, other, second), one, first)
        label = (self.item(1, second), self.item(0, first))
        return [] if is_settled((chain_one, chain_other)) else [(label, (chain_one, chain_other))]

    def item(self, number, word):
        """Return the item of one of the two neighbours with this word."""
        return item_of(self.neighbours[number], word)

    def chain_behind(self, chain, call, word):
        """Return the chain behind a call."""
        mode = moved(call[2], chain[0])
        if mode == GONE:
            return (GONE, ())
        contents = list(chain[1])
        for deed, field in call[3]:
            at = self.kind.spots[field]
            if self.kind.sorts[field] == "many":
                contents[at] = told_list(deed, contents[at], word)
            else:
                contents[at] = word if deed == "set" else NO_WORD
        return (mode, tuple(contents))


def told_list(deed, words, word):
    """Return the words of the two neighbours that are in a list behind a deed."""
    if deed == "clear":
        return ()
    if deed == "add" and word != THIRD_WORD:
        return (*words, word)
    if deed == "strike":
        return tuple([kept for kept in words if kept != word])
    return words


def is_settled(chains):
    """Tell whether no last call behind these chains can show anything any more."""
    if len(chains) == 1:
        return chains[0][0] == GONE
    return chains[0] == chains[1]

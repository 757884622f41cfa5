"""All programs of one make, level by level, with real words and with all rows kept.

Programs behind which all is the same are told once; nothing else is left out.
"""

from trials import items


class Live:
    """Makers as (mode, held), lists by number, and products as (held, contents when made)."""

    def __init__(self, kind, makers=None, lists=None, products=()):
        self.kind = kind
        self.sorts = [sort for name, sort, need in kind.fields()]
        self.names = [name for name, sort, need in kind.fields()]
        blank = [None if sort == "one" else at for at, sort in enumerate(self.sorts)]
        self.makers = [(0, blank)] if makers is None else makers
        self.lists = {at: () for at in range(len(self.sorts))} if lists is None else lists
        self.products = list(products)

    def copy(self):
        return Live(self.kind, list(self.makers), dict(self.lists), self.products)

    def contents(self, held):
        return tuple(x if sort == "one" else self.lists[x] for x, sort in zip(held, self.sorts))

    def put(self, words):
        self.lists[len(self.lists)] = words
        return len(self.lists) - 1

    def shared(self, held, same):
        return [x if sort == "one" or name in same else self.put(self.lists[x])
                for x, name, sort in zip(held, self.names, self.sorts)]

    def call(self, number, item):
        """Do a call; the number of the maker that it hands, -1 for a product, None if it is refused."""
        name, hand, moves, deeds, same = self.kind[item[0]]
        mode, held = self.makers[number]
        if moves[mode] == -1:
            return None
        held = self.shared(held, same) if hand == "new" else list(held)
        for deed, field in deeds:
            self.do(held, self.names.index(field), deed, item[-1])
        if hand == "new":
            self.makers.append((moves[mode], held))
            return len(self.makers) - 1
        self.makers[number] = (moves[mode], held)
        if hand == "self":
            return number
        self.products.append((self.shared(held, same), self.contents(held)))
        return -1

    def do(self, held, at, deed, word):
        if self.sorts[at] == "one":
            held[at] = word if deed == "set" else None
        elif deed == "fresh":
            held[at] = self.put(self.lists[held[at]])
        elif deed == "add":
            self.lists[held[at]] += (word,)
        else:
            kept = tuple(x for x in self.lists[held[at]] if deed == "strike" and x != word)
            self.lists[held[at]] = kept

    def ends(self):
        return [self.contents(held) for held, made in self.products]

    def told(self, numbers):
        """What there is, the same for all ways to number lists, of these makers and all products."""
        known = {}

        def plain(held):
            return tuple(x if sort == "one" else known.setdefault(x, len(known)) for x, sort in zip(held, self.sorts))

        makers = [(self.makers[k][0], plain(self.makers[k][1])) for k in numbers]
        products = [(plain(held), made) for held, made in self.products]
        return (tuple(makers), tuple(products), tuple(self.lists[x] for x in known))


class Both:
    """One program of two kinds: the two lives, and the rows as pairs of makers, None where nothing was handed."""

    def __init__(self, one, other, rows):
        self.one, self.other, self.rows = one, other, rows

    def told(self):
        ours = sorted({row[0] for row in self.rows if row[0] is not None})
        theirs = sorted({row[1] for row in self.rows if row[1] is not None})
        rows = tuple((None if one is None else ours.index(one), None if other is None else theirs.index(other))
                     for one, other in self.rows)
        return (rows, self.one.told(ours), self.other.told(theirs))


def behind(both, row, item, onward, idle):
    """What there is behind a call, "unlike" if it shows unlike things, None if it is refused in both."""
    one, other = both.one.copy(), both.other.copy()
    handed = None if row[0] is None else one.call(row[0], item)
    if item[0] == idle:
        handed_other = row[1]
    else:
        handed_other = None if row[1] is None else other.call(row[1], item)
        if (handed is None) != (handed_other is None):
            return "unlike"
    if handed is None and handed_other is None:
        return None
    if handed == -1 and one.products[-1][1] != other.products[-1][1]:
        return "unlike"
    if one.ends() != other.ends():
        return "unlike"
    rows = both.rows
    if handed != -1 and (handed, handed_other) not in (rows[-1:] if onward else rows):
        rows = [(handed, handed_other)] if onward else [*rows, (handed, handed_other)]
    return Both(one, other, rows)


def fewest_calls(one, other, callers, most, idle=None, limit=3000):
    """The fewest calls that show unlike things of two kinds.

    None if there is no such number up to most, or up to where the programs that differ are more than the limit.
    """
    start = Both(Live(one), Live(other), [(0, 0)])
    known, level = {start.told(): True}, [start]
    for calls in range(1, most + 1):
        further = []
        for both in level:
            for row in both.rows:
                for item in items(one, one.names()):
                    reached = behind(both, row, item, callers == "onward", idle)
                    if reached == "unlike":
                        return calls, True
                    if reached is not None and reached.told() not in known:
                        known[reached.told()] = True
                        further.append(reached)
                        if len(known) > limit:
                            return calls, False
        level = further
    return most + 1, False

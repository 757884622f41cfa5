"""What the rows of a program do: the makers, the products and the lists that they hold."""


class Handed:
    """A maker, or, with None for a mode, a product.

    It holds for each field of sort "one" a word or None, for each of sort "many"
    the number of a list of its bench.
    """

    def __init__(self, mode, held):
        self.mode = mode
        self.held = held


class Bench:
    """Does the rows of a program for a kind, one after the other.

    The lists are numbered, so that two hold the very same list just if they hold
    the same number. `handed` has for each row what it handed, or None; `early` has
    for each row the contents that its product had when it was made, or None. With
    `as_values` the rows are done as the own reading does them.
    """

    def __init__(self, kind, as_values=False):
        self.kind = kind
        self.as_values = as_values
        self.lists = []
        self.handed = []
        self.early = []

    def do_row(self, row):
        """Do a row of a program, behind the rows that were done."""
        if len(row) == 1:
            self.hand_over(self.blank_maker())
            return
        mode = self.next_mode(row)
        if mode == -1:
            self.hand_over(None)
        else:
            self.do_call(row, mode)

    def next_mode(self, row):
        """Return the mode to which the maker comes by the call of a row, -1 if it is refused."""
        handed = self.handed[row[1]]
        return -1 if handed is None else self.kind.table[row[0]][2][handed.mode]

    def do_call(self, row, mode):
        """Do a row of a call that is let in and leads to this mode."""
        name, hand, moves, deeds, same = self.kind.table[row[0]]
        maker = self.handed[row[1]]
        if self.as_values:
            # A value shares nothing and stays as it is: each call is on a copy.
            maker = Handed(mode, self.copied(maker.held, ()))
        elif hand == "new":
            maker = Handed(mode, self.copied(maker.held, same))
        maker.mode = mode
        self.do_deeds(maker.held, deeds, row[-1])
        if hand == "last":
            self.hand_over(Handed(None, self.copied(maker.held, same)))
        else:
            self.hand_over(maker)

    def hand_over(self, handed):
        """Note what the present row hands."""
        self.handed.append(handed)
        if handed is not None and handed.mode is None:
            self.early.append(self.contents(handed.held))
        else:
            self.early.append(None)

    def blank_maker(self):
        """Return a new maker without words."""
        held = [None if sort == "one" else self.put_list([]) for name, sort, need in self.kind.triples]
        return Handed(0, held)

    def put_list(self, words):
        """Put a new list with these words on the bench; return its number."""
        self.lists.append(list(words))
        return len(self.lists) - 1

    def copied(self, held, same):
        """Return what is held by one that shares just the lists of the fields in same."""
        copies = []
        for content, (name, sort, need) in zip(held, self.kind.triples):
            if sort == "one" or name in same:
                copies.append(content)
            else:
                copies.append(self.put_list(self.lists[content]))
        return copies

    def do_deeds(self, held, deeds, word):
        """Do these deeds, in their order, on what is held."""
        for deed, field in deeds:
            at = self.kind.spots[field]
            if self.kind.sorts[field] == "many":
                held[at] = self.do_list_deed(held[at], deed, word)
            else:
                held[at] = word if deed == "set" else None

    def do_list_deed(self, number, deed, word):
        """Do a deed on the list with this number; return the number of the list that is held then."""
        words = self.lists[number]
        if deed == "fresh":
            return self.put_list(words)
        if deed == "add":
            words.append(word)
        elif deed == "strike":
            self.lists[number] = [kept for kept in words if kept != word]
        else:
            self.lists[number] = []
        return number

    def contents(self, held):
        """Return new contents: what is held, with the words of the lists."""
        sorts = [sort for name, sort, need in self.kind.triples]
        return [
            content if sort == "one" else list(self.lists[content])
            for content, sort in zip(held, sorts)
        ]

    def told(self, k):
        """Return what row k handed, as it is at present."""
        handed = self.handed[k]
        if handed is None:
            return None
        contents = self.contents(handed.held)
        if handed.mode is None:
            return ("product", contents)
        return ("maker", handed.mode, contents)

    def told_early(self, k):
        """Return the contents that the product of row k had when it was made."""
        return [list(content) if isinstance(content, list) else content for content in self.early[k]]

    def told_all(self):
        """Return for each row what it handed, as it is at present."""
        return [self.told(k) for k in range(len(self.handed))]

"""Runs of programs, and their own reading."""

from makerlines.benches import Bench
from makerlines.errors import BadPlace, BadRow
from makerlines.forms import is_many
from makerlines.terms import is_integer, is_list, is_word


def own_things(kind, rows):
    """Return for each row what it hands if handed things are values that never change."""
    bench = Bench(kind, as_values=True)
    for row in kept_program(kind, rows):
        bench.do_row(row)
    return bench.told_all()


def kept_program(kind, rows):
    """Return the rows as a tuple of tuples; BadRow for the first item that is no row."""
    if not is_list(rows):
        raise BadRow(0)
    kept = []
    for index, row in enumerate(rows):
        if not is_row(kind, kept, row):
            raise BadRow(index)
        kept.append(tuple(row))
    return tuple(kept)


def is_row(kind, ahead, row):
    """Tell whether any object is a row of a program, behind these rows."""
    if not is_list(row) or len(row) == 0:
        return False
    if len(row) == 1:
        return row[0] == "make"
    name, k = row[:2]
    if name not in kind:
        return False
    if not is_integer(k) or not 0 <= k < len(ahead) or is_last(kind, ahead[k]):
        return False
    if kind.takes(name):
        return len(row) == 3 and is_word(row[2])
    return len(row) == 2


def is_last(kind, row):
    """Tell whether a row is one of a call with the hand "last"."""
    return len(row) > 1 and kind.table[row[0]][1] == "last"


class Run:
    """A run of a program. It stays as it was made."""

    def __init__(self, kind, rows=()):
        self.kind = kind
        self.program = kept_program(kind, rows)
        self.bench = Bench(kind)
        for row in self.program:
            self.bench.do_row(row)

    def __eq__(self, other):
        return isinstance(other, Run) and self.kind == other.kind and self.program == other.program

    def __len__(self):
        return len(self.program)

    def __iter__(self):
        return iter(self.program)

    def rows(self):
        """Return the program, as a list of tuples."""
        return list(self.program)

    def further(self, rows):
        """Return the run with these rows behind its own."""
        if not is_list(rows):
            raise BadRow(len(self.program))
        return Run(self.kind, [*self.program, *rows])

    def things(self):
        """Return for each row what it handed, as it is at the end."""
        return self.bench.told_all()

    def made(self, k):
        """Return the contents that the product of row k had when it was made."""
        if not self.has_handed(k) or self.bench.early[k] is None:
            raise BadPlace(k)
        return self.bench.told_early(k)

    def one(self, i, j, field):
        """Tell whether what rows i and j handed holds the very same list in this field."""
        if not self.has_handed(i):
            raise BadPlace(i)
        if not self.has_handed(j):
            raise BadPlace(j)
        if not is_many(field, self.kind.sorts):
            raise BadPlace(field)
        at = self.kind.spots[field]
        return self.bench.handed[i].held[at] == self.bench.handed[j].held[at]

    def has_handed(self, k):
        """Tell whether any object is the number of a row that handed something."""
        return is_integer(k) and 0 <= k < len(self.program) and self.bench.handed[k] is not None

    def is_onward(self):
        """Tell whether each call is on the latest row ahead that is not one of a "last"."""
        latest = None
        for number, row in enumerate(self.program):
            if len(row) > 1 and row[1] != latest:
                return False
            if not is_last(self.kind, row):
                latest = number
        return True

"""Yards: places for live makers."""

from makerlines.benches import Bench
from makerlines.errors import BadThing, BadWord, Refused, UnknownCall
from makerlines.runs import Run
from makerlines.terms import is_word


class Yard:
    """A place for live makers: a program that is done row by row, and whose last row can be taken back."""

    def __init__(self, kind):
        self.kind = kind
        self.program = []
        self.bench = Bench(kind)
        self.placed = []

    def make(self):
        """Do a row that makes; return its thing."""
        return self.put_row(("make",))

    def undo(self):
        """Take back the last row; tell whether there was one."""
        if len(self.program) == 0:
            return False
        self.program.pop()
        thing = self.placed.pop()
        thing.is_gone = True
        # Done once more from the first row on, what stands is as it was ahead of the last one.
        self.bench = Bench(self.kind)
        for row in self.program:
            self.bench.do_row(row)
        return True

    def run(self):
        """Return the run of the rows that stand."""
        return Run(self.kind, self.program)

    def put_row(self, row):
        """Do a row that hands something; return its thing."""
        self.program.append(row)
        self.bench.do_row(row)
        thing = Thing(self, len(self.placed))
        self.placed.append(thing)
        return thing


class Thing:
    """What a row of a yard handed, until the row is taken back."""

    def __init__(self, yard, number):
        self.yard = yard
        self.number = number
        self.is_gone = False

    def call(self, name, word=None):
        """Do the row of this call on the thing; return the thing of this row."""
        yard = self.yard
        if self.is_gone or yard.bench.handed[self.number].mode is None:
            raise BadThing()
        if name not in yard.kind:
            raise UnknownCall(name)
        is_right = is_word(word) if yard.kind.takes(name) else word is None
        if not is_right:
            raise BadWord(word)
        row = (name, self.number) if word is None else (name, self.number, word)
        if yard.bench.next_mode(row) == -1:
            raise Refused()
        return yard.put_row(row)

    def look(self):
        """Return what the row of the thing handed, as it is at present."""
        if self.is_gone:
            raise BadThing()
        return self.yard.bench.told(self.number)

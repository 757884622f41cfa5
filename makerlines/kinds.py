"""Kinds of makers: their fields, modes and calls."""

from makerlines.errors import BadModes, BadPlace, UnknownCall
from makerlines.forms import WORD_DEEDS, is_modes, kept_calls, kept_fields, told_call, without
from makerlines.texts import read_draft, written


class Kind:
    """A kind of makers. It stays as it was made."""

    def __init__(self, fields, calls, *, modes=1):
        self.triples = kept_fields(fields)
        self.sorts = {name: sort for name, sort, need in self.triples}
        self.spots = {field[0]: at for at, field in enumerate(self.triples)}
        if not is_modes(modes):
            raise BadModes(modes)
        self.modes = modes
        self.steps = kept_calls(calls, self.sorts, modes)
        self.table = {call[0]: call for call in self.steps}

    def __eq__(self, other):
        return (
            isinstance(other, Kind)
            and self.triples == other.triples
            and self.modes == other.modes
            and self.steps == other.steps
        )

    def __len__(self):
        return len(self.table)

    def __iter__(self):
        return iter(self.table)

    def __contains__(self, x):
        return isinstance(x, str) and x in self.table

    def __getitem__(self, at):
        if not isinstance(at, str) or at not in self.table:
            raise UnknownCall(at)
        return told_call(self.table[at])

    def fields(self):
        """Return the fields, as a list of triples."""
        return list(self.triples)

    def calls(self):
        """Return the calls, as a list of tuples with lists in them."""
        return [told_call(call) for call in self.steps]

    def names(self):
        """Return the names of the calls, in order."""
        return list(self.table)

    def takes(self, name):
        """Tell whether the call with this name takes a word."""
        if name not in self:
            raise UnknownCall(name)
        return any([deed in WORD_DEEDS for deed, field in self.table[name][3]])

    def own(self, name, field):
        """Return the kind in which the field is left out of the same of this call."""
        if name not in self:
            raise UnknownCall(name)
        if field not in self.table[name][4]:
            raise BadPlace(field)
        mended = [without(call, field) if call[0] == name else call for call in self.steps]
        return Kind(self.triples, mended, modes=self.modes)

    def text(self):
        """Return the kind as a text."""
        return written(self.modes, self.triples, self.steps)

    @staticmethod
    def of_text(text):
        """Return the kind with this text; BadText, then the errors of Kind."""
        draft = read_draft(text)
        return Kind(draft.field_items, draft.call_items, modes=draft.modes)

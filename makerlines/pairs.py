"""Whether products differ in two kinds that let in the same calls, for one field and one word."""

from makerlines.casts import Casts
from makerlines.marks import marked

# One row is in view, in mode 0, and no product is kept.
FIRST_CAST = (False, ((0, 0, 0),))


class Pairs:
    """The walk over what two kinds make of the same rows; what it shows is an unlike product.

    A place is (field, cast, content, content): the contents of the lists in view, or for a field
    of sort "one" of the makers in view. If a product is kept, they are alike.
    """

    def __init__(self, one, other, callers):
        self.casts = [Casts(one, other, name, callers) for name, sort, need in one.triples]

    def starts(self):
        """Return the places of new makers, for the fields that can ever have the word."""
        return [(field, FIRST_CAST, 0, 0) for field, casts in enumerate(self.casts) if casts.has_word()]

    def ways(self, place):
        """Return the steps, with None where a product differs."""
        field, cast, content, content_other = place
        found = []
        for label, reached, mark, mark_other in self.casts[field].turns(cast):
            behind = (marked(content, mark), marked(content_other, mark_other))
            is_shown = reached[0] and behind[0] != behind[1]
            found.append((label, None if is_shown else (field, reached, *behind)))
        return found

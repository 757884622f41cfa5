"""The forms of fields, modes and calls: what a kind is made of, checked and copied."""

from makerlines.errors import BadCall, BadField
from makerlines.terms import is_integer, is_list, is_word

MOST_FIELDS = 3
MOST_MODES = 4
MOST_CALLS = 6
MOST_DEEDS = 4
SORTS = ("one", "many")
HANDS = ("self", "new", "last")
SORTS_OF_DEEDS = {
    "set": ("one",),
    "add": ("many",),
    "strike": ("many",),
    "fresh": ("many",),
    "clear": ("one", "many"),
}
WORD_DEEDS = ("set", "add", "strike")
LIST_WORD_DEEDS = ("add", "strike")


def kept_fields(fields):
    """Return the fields as a tuple of triples; BadField for the first item that is none."""
    if not is_list(fields) or len(fields) == 0:
        raise BadField(0)
    kept = []
    for index, item in enumerate(fields):
        earlier = [field[0] for field in kept]
        if index >= MOST_FIELDS or not is_field(item, earlier):
            raise BadField(index)
        kept.append(tuple(item))
    return tuple(kept)


def is_field(item, earlier):
    """Tell whether any object is a field whose name is not among the earlier ones."""
    if not is_list(item) or len(item) != 3:
        return False
    name, sort, need = item
    return is_word(name) and name not in earlier and sort in SORTS and isinstance(need, bool)


def is_modes(modes):
    """Tell whether any object is a number of modes."""
    return is_integer(modes) and 1 <= modes <= MOST_MODES


def kept_calls(calls, sorts, modes):
    """Return the calls as a tuple of tuples; BadCall for the first item that is none.

    The dict sorts has the sort of each field under its name.
    """
    if not is_list(calls) or len(calls) == 0:
        raise BadCall(0, "call")
    kept = []
    for index, item in enumerate(calls):
        if index >= MOST_CALLS:
            raise BadCall(index, "call")
        reason = wrong_part(item, [call[0] for call in kept], sorts, modes)
        if reason is not None:
            raise BadCall(index, reason)
        kept.append(kept_call(item))
    return tuple(kept)


def wrong_part(item, earlier, sorts, modes):
    """Return the first reason for which any object is no call, or None."""
    if not has_call_form(item):
        return "call"
    name, hand, moves, deeds, same = item
    if not is_word(name) or name in earlier:
        return "name"
    if hand not in HANDS:
        return "hand"
    if not are_moves(moves, modes):
        return "moves"
    if not are_deeds(deeds, sorts):
        return "deed"
    if not is_same(same, hand, sorts):
        return "same"
    return None


def has_call_form(item):
    """Tell whether any object is a list of two strings and three lists."""
    if not is_list(item) or len(item) != 5:
        return False
    name, hand, moves, deeds, same = item
    if not isinstance(name, str) or not isinstance(hand, str):
        return False
    return is_list(moves) and is_list(deeds) and is_list(same)


def are_moves(moves, modes):
    """Tell whether a list has for each mode a mode, or -1."""
    if len(moves) != modes:
        return False
    return all([is_integer(move) and -1 <= move < modes for move in moves])


def are_deeds(deeds, sorts):
    """Tell whether a list has at most four deeds, and for each field at most one with its word."""
    if len(deeds) > MOST_DEEDS or not all([is_deed(pair, sorts) for pair in deeds]):
        return False
    worded = [field for deed, field in deeds if deed in LIST_WORD_DEEDS]
    return len(set(worded)) == len(worded)


def is_deed(pair, sorts):
    """Tell whether any object is a pair of a deed and a field for which there is this deed."""
    if not is_list(pair) or len(pair) != 2:
        return False
    deed, field = pair
    if not isinstance(deed, str) or deed not in SORTS_OF_DEEDS:
        return False
    return isinstance(field, str) and field in sorts and sorts[field] in SORTS_OF_DEEDS[deed]


def is_same(same, hand, sorts):
    """Tell whether a list has fields of sort "many", each once, and for "self" none."""
    if not all([is_many(field, sorts) for field in same]):
        return False
    if hand == "self" and len(same) > 0:
        return False
    return len(set(same)) == len(same)


def is_many(field, sorts):
    """Tell whether any object is the name of a field of sort "many"."""
    return isinstance(field, str) and field in sorts and sorts[field] == "many"


def kept_call(call):
    """Return a call as a tuple with nothing in it that can be changed."""
    name, hand, moves, deeds, same = call
    return (name, hand, tuple(moves), tuple([tuple(pair) for pair in deeds]), tuple(same))


def told_call(call):
    """Return a kept call as it is told: with new lists in it."""
    name, hand, moves, deeds, same = call
    return (name, hand, list(moves), list(deeds), list(same))


def without(call, field):
    """Return a kept call with this field left out of its same."""
    name, hand, moves, deeds, same = call
    return (name, hand, moves, deeds, tuple([other for other in same if other != field]))

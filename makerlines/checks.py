"""Checks of arguments that several functions take."""

from makerlines.errors import BadCallers, BadPlace, BadWish, UnknownCall

WISHES = ("steady", "own", "complete")
CALLERS = ("onward", "forks")


def check_wish(wish, wishes=WISHES):
    """Raise BadWish for any object that is not one of these wishes."""
    if not isinstance(wish, str) or wish not in wishes:
        raise BadWish(wish)


def check_callers(callers):
    """Raise BadCallers for any object that is none of the two texts."""
    if not isinstance(callers, str) or callers not in CALLERS:
        raise BadCallers(callers)


def check_going_on(kind, name):
    """Raise UnknownCall or BadPlace unless this is the name of a call with another hand than "last"."""
    if name not in kind:
        raise UnknownCall(name)
    if kind.table[name][1] == "last":
        raise BadPlace(name)

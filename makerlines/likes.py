"""What is alike to all callers: two kinds, a kind and itself without a call, chains and statements."""

from makerlines.chains import Exchanges, Styles
from makerlines.checks import check_callers, check_going_on
from makerlines.errors import BadKind
from makerlines.kinds import Kind
from makerlines.lets import Lets
from makerlines.modes import with_least_modes
from makerlines.pairs import Pairs
from makerlines.searches import explore, program_of


def alike(one, other, callers="forks"):
    """Return ("alike",), or ("rows", rows) with a shortest program that shows unlike things of two kinds."""
    if not is_comparable(one, other):
        raise BadKind(other)
    check_callers(callers)
    labels = explore(Lets(one, other, callers))[0]
    # With fewer rows than these both kinds let in the same calls.
    most = None if labels is None else len(labels) - 1
    fewer = explore(Pairs(with_least_modes(one), other, callers), most)[0]
    if fewer is not None:
        labels = fewer
    if labels is None:
        return ("alike",)
    return ("rows", program_of(labels))


def is_comparable(one, other):
    """Tell whether any object is a kind comparable with the first one."""
    if not isinstance(other, Kind) or one.triples != other.triples or one.names() != other.names():
        return False
    return all([
        one.takes(name) == other.takes(name) and (one.table[name][1] == "last") == (other.table[name][1] == "last")
        for name in one.names()
    ])


def is_idle(kind, name, callers="forks"):
    """Tell whether all other rows show the same if each row of this call does nothing."""
    check_going_on(kind, name)
    check_callers(callers)
    idle = idled(kind, name)
    if explore(Lets(kind, idle, callers, name))[0] is not None:
        return False
    return explore(Pairs(with_least_modes(kind), idle, callers))[0] is None


def idled(kind, name):
    """Return the kind in which this call does nothing."""
    nothing = (name, "self", list(range(kind.modes)), [], [])
    calls = [nothing if call[0] == name else call for call in kind.steps]
    return Kind(kind.triples, calls, modes=kind.modes)


def styles(kind):
    """Return ("alike",), or ("calls", row) with a shortest row of calls that differs as a chain and as statements."""
    row = explore(Styles(kind))[0]
    return ("alike",) if row is None else ("calls", row)


def either(kind, one, other):
    """Return ("alike",) if neighbours that are these two calls can always be exchanged.

    Otherwise ("calls", row, row), with two shortest rows that do not come to the same.
    """
    check_going_on(kind, one)
    check_going_on(kind, other)
    pairs = explore(Exchanges(kind, one, other))[0]
    if pairs is None:
        return ("alike",)
    return ("calls", [pair[0] for pair in pairs], [pair[1] for pair in pairs])

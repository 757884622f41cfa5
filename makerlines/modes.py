"""Modes that come to the same, and modes from which a call can be come to."""

from makerlines.kinds import Kind


def with_least_modes(kind):
    """Return a kind that lets in the same calls as this one, with as few modes as can be."""
    classes = mode_classes(kind)
    firsts = [classes.index(number) for number in range(max(classes) + 1)]
    calls = []
    for name, hand, moves, deeds, same in kind.steps:
        least = [class_behind(classes, moves[mode]) for mode in firsts]
        calls.append((name, hand, least, deeds, same))
    return Kind(kind.triples, calls, modes=len(firsts))


def mode_classes(kind):
    """Return for each mode the number of its class: modes behind which the same calls are let in are in one."""
    classes = [0] * kind.modes
    for length in range(kind.modes):
        # Told apart so far: modes behind which rows of at most this many calls are let in unlike.
        keys = []
        for mode in range(kind.modes):
            behind = [class_behind(classes, call[2][mode]) for call in kind.steps]
            keys.append((classes[mode], tuple(behind)))
        numbers = {}
        classes = [numbers.setdefault(key, len(numbers)) for key in keys]
    return classes


def class_behind(classes, move):
    """Return the class of the mode to which a move leads, -1 for a call that is refused."""
    return -1 if move == -1 else classes[move]


def modes_ahead_of(kind, names):
    """Return for each mode whether one of these calls can be let in from it on, perhaps behind others."""
    modes = [any([kind.table[name][2][mode] != -1 for name in names]) for mode in range(kind.modes)]
    for length in range(kind.modes):
        modes = [
            is_ahead or any([call[2][mode] != -1 and modes[call[2][mode]] for call in kind.steps])
            for mode, is_ahead in enumerate(modes)
        ]
    return modes

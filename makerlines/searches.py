"""Searching level by level, so that what is found comes by as few steps as can be.

A walk is an object with two methods: `starts()` returns the list of the places where it can
begin, `ways(place)` a list with a pair (label, place) for each step from a place, with None in
place of the place where the step shows what is looked for.
"""

from makerlines.marks import WORDS

# The line of the product, that of who brings the word, that of who takes it out, and, of two
# kinds, one that is at the maker of another line in one of them alone.
MOST_IN_VIEW = 4


def explore(walk, most=None):
    """Return the labels of the fewest steps that show something, or None, and all places that were reached.

    With a number for most, no more steps than these are taken one after the other.
    """
    origins = {start: None for start in walk.starts()}
    level = list(origins)
    done = 0
    while len(level) > 0 and done != most:
        further = []
        for place in list(level):
            for label, reached in walk.ways(place):
                if reached is None:
                    return [*labels_to(origins, place), label], list(origins)
                if reached not in origins:
                    origins[reached] = (place, label)
                    further.append(reached)
        level = further
        done += 1
    return None, list(origins)


def labels_to(origins, place):
    """Return the labels of the steps by which a place was reached."""
    labels = []
    while origins[place] is not None:
        place, label = origins[place]
        labels.append(label)
    return labels[::-1]


def program_of(labels):
    """Return the program of these steps, behind a first row that makes.

    Such a walk keeps up to MOST_IN_VIEW rows in view, at first row 0 alone. A label is (call,
    word, number of the row in view on which the call is, rows in view behind it), the last one
    with the number that each had in view, or -1 for the row of the call.
    """
    rows = [("make",)]
    view = [0] * MOST_IN_VIEW
    for name, word, number, carried in labels:
        k = view[number]
        view = [len(rows) if old == -1 else view[old] for old in carried]
        rows.append((name, k, WORDS[word]) if word else (name, k))
    return rows

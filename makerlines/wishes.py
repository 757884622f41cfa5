"""Wishes of callers: whether a program breaks them, whether any does, and what mends a kind."""

from makerlines.checks import WISHES, check_callers, check_wish
from makerlines.errors import BadRun
from makerlines.runs import Run, own_things
from makerlines.searches import explore, program_of
from makerlines.sharers import Sharers
from makerlines.standings import Standings
from makerlines.terms import is_integer, is_list


def is_broken(wish, run):
    """Tell whether the program of a run breaks the wish."""
    check_wish(wish)
    if not isinstance(run, Run):
        raise BadRun(run)
    things = run.things()
    products = [k for k, thing in enumerate(things) if thing is not None and thing[0] == "product"]
    if wish == "steady":
        return any([run.made(k) != things[k][1] for k in products])
    if wish == "own":
        return is_other_than_own(run, things)
    return any([lacks(run.kind, run.made(k)) for k in products])


def is_other_than_own(run, things):
    """Tell whether some row of a run hands something other than in the own reading."""
    for k, own in enumerate(own_things(run.kind, run.rows())):
        thing = things[k]
        # A row of one call hands a maker, or a product, in both readings if it hands anything.
        if (thing is None) != (own is None):
            return True
        if own is not None and own[0] == "product" and run.made(k) != own[1]:
            return True
    return False


def lacks(kind, contents):
    """Tell whether a product with these contents lacks something that is needed."""
    for (name, sort, need), content in zip(kind.fields(), contents):
        if need and (content is None or content == []):
            return True
    return False


def judge(kind, wish, callers="forks"):
    """Return ("broken", rows) with a shortest program that breaks the wish, or ("holds", standings)."""
    check_wish(wish)
    check_callers(callers)
    labels, reached = explore(Standings(kind, wish, callers))
    if labels is None:
        return ("holds", reached)
    return ("broken", program_of(labels))


def is_closed(kind, wish, callers, standings):
    """Tell whether any object is a list of standings which shows that the wish cannot be broken."""
    verdict, needed = judge(kind, wish, callers)
    if verdict == "broken" or not is_list(standings):
        return False
    given = {kept_standing(item): True for item in standings}
    return all([standing in given for standing in needed])


def kept_standing(item):
    """Return any object as a standing, if it has the form of one, else None."""
    if not is_list(item):
        return None
    parts = []
    for part in item:
        if is_list(part):
            part = tuple(part)
            numbers = part
        else:
            numbers = (part,)
        if not all([number is None or is_integer(number) for number in numbers]):
            return None
        parts.append(part)
    return tuple(parts)


def mends(kind, wish, callers="forks"):
    """Return all least sets of places that, left out of same, make the wish hold."""
    check_wish(wish, WISHES[:2])
    check_callers(callers)
    found = [[]]
    for name, sort, need in kind.fields():
        # A place matters in its own field alone, so least sets are made of those of the fields.
        least = least_sets(kind, wish, callers, name)
        found = [[*places, *chosen] for places in found for chosen in least]
    order = places_of(kind)
    return [[place for place in order if place in places] for places in found]


def places_of(kind):
    """Return all places of a kind, in order."""
    return [(call[0], field) for call in kind.steps for field in call[4]]


def least_sets(kind, wish, callers, field):
    """Return the least sets of places of this field that make the wish hold in it."""
    places = [place for place in places_of(kind) if place[1] == field]
    least = []
    for chosen in sorted(choices(places), key=len):
        if any([is_part(known, chosen) for known in least]):
            continue
        labels, reached = explore(Sharers(left_out(kind, chosen), wish, callers, field))
        if labels is None:
            least.append(chosen)
    return least


def choices(places):
    """Return all lists of some of these places, none and all included."""
    chosen = [[]]
    for place in places:
        chosen = [*chosen, *[[*some, place] for some in chosen]]
    return chosen


def is_part(some, places):
    """Tell whether all of some places are among these."""
    return all([place in places for place in some])


def left_out(kind, places):
    """Return the kind in which these places are left out of same."""
    for name, field in places:
        kind = kind.own(name, field)
    return kind

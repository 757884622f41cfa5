"""Good orders of calls, and the one least machine that lets in these alone."""

from makerlines.errors import BadRule
from makerlines.machines import DONE, least_machine
from makerlines.marks import THE_WORD, marked, marks_of
from makerlines.terms import is_list


def freest(kind, rules=()):
    """Return the least machine of all good rows of calls: for each state its pairs (name, state)."""
    return least_machine(Orders(kind, rules))


def is_good(kind, rules, names):
    """Tell whether any object is a good row of names of calls."""
    orders = Orders(kind, rules)
    if not is_list(names):
        return False
    place = orders.start()
    for name in names:
        if place == DONE or name not in kind:
            return False
        place = orders.place_behind(place, name)
        if place is None:
            return False
    return place == DONE


def is_rule(kind, rule):
    """Tell whether any object is a rule for a kind."""
    if not is_list(rule) or len(rule) < 2 or not all([name in kind for name in rule[1:]]):
        return False
    if rule[0] == "once":
        return len(rule) == 2
    return rule[0] in ("ahead", "bar") and len(rule) == 3 and rule[1] != rule[2]


class Orders:
    """The rows of calls of a kind with rules; BadRule for the first item that is no rule.

    A place tells what counts of the calls so far: (mode, contents, seen), with 1 for each field
    that has something whatever the words are, 0 for the others, and the calls of which it counts
    that they were made; DONE behind a call that makes a product.
    """

    def __init__(self, kind, rules):
        if not is_list(rules):
            raise BadRule(0)
        for index, rule in enumerate(rules):
            if not is_rule(kind, rule):
                raise BadRule(index)
        self.kind = kind
        self.needed = [need for name, sort, need in kind.triples]
        self.wanted = {name: [] for name in kind}
        self.barred = {name: [] for name in kind}
        for rule in rules:
            # A call that is made once at most is barred behind itself.
            table = self.wanted if rule[0] == "ahead" else self.barred
            table[rule[-1]].append(rule[1])
        self.counted = [name for name in kind if name in [rule[1] for rule in rules]]

    def start(self):
        """Return the place of a new maker."""
        return (0, tuple([0 for need in self.needed]), ())

    def place_behind(self, place, name):
        """Return the place behind a call, None if no good row has it there."""
        mode, contents, seen = place
        call = self.kind.table[name]
        mode = call[2][mode]
        if mode == -1 or not self.keeps_rules(name, seen):
            return None
        contents = self.contents_behind(call, contents)
        if call[1] == "last":
            lacks = any([need and content == 0 for content, need in zip(contents, self.needed)])
            return None if lacks else DONE
        return (mode, contents, tuple([other for other in self.counted if other == name or other in seen]))

    def contents_behind(self, call, contents):
        """Return for each needed field whether it surely has something behind the deeds of a call."""
        behind = []
        for content, (field, sort, need) in zip(contents, self.kind.triples):
            # All words can be the same, so a strike can leave a list empty, and THE word tells it.
            very, held = marks_of(call[3], field, THE_WORD)
            behind.append(marked(content, held) if need else 0)
        return tuple(behind)

    def keeps_rules(self, name, seen):
        """Tell whether a call with this name, behind those that were seen, keeps the rules."""
        if not all([other in seen for other in self.wanted[name]]):
            return False
        return not any([other in seen for other in self.barred[name]])

    def ways(self, place):
        """Return the calls with which a good row might go on, as pairs (name, place), in order."""
        found = [(name, self.place_behind(place, name)) for name in self.kind]
        return [(name, reached) for name, reached in found if reached is not None]

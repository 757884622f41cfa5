"""Small kinds, and all programs and rows of calls of a few rows, for trying everything out."""

import itertools

from makerlines.kinds import Kind
from makerlines.runs import Run

MAKE = ("make",)


def small_kind(rng, calls=(2, 3), fields=(1, 2), modes=(1, 2), sorts=("one", "many", "many")):
    """A kind by this random source with a few calls, the last one a "last"."""
    modes = rng.randint(*modes)
    fields = [(name, rng.choice(sorts), rng.random() < 0.5) for name in "ab"[:rng.randint(*fields)]]
    names = "pqrst"[:rng.randint(*calls)]
    hands = [rng.choice(["self", "new", "new", "last"]) for name in names[1:]] + ["last"]
    made = [small_call(rng, name, hand, fields, modes) for name, hand in zip(names, hands)]
    return Kind(fields, made, modes=modes)


def small_call(rng, name, hand, fields, modes):
    moves = [rng.choice([-1, *range(modes), *range(modes)]) for _ in range(modes)]
    deeds, worded = [], []
    for _ in range(rng.choice([0, 1, 1, 2, 3])):
        field, sort, _need = rng.choice(fields)
        deed = rng.choice(["set", "clear"] if sort == "one" else ["add", "add", "strike", "fresh", "clear"])
        if deed in ("add", "strike") and field in worded:
            continue
        worded.append(field)
        deeds.append((deed, field))
    many = [field for field, sort, _need in fields if sort == "many"]
    same = [] if hand == "self" else [field for field in many if rng.random() < 0.7]
    return (name, hand, moves, deeds, same)


def twin_of(rng, kind):
    """A kind that is comparable with this one and differs from it in one or two calls, or not at all."""
    calls = kind.calls()
    many = [field for field, sort, need in kind.fields() if sort == "many"]
    for _ in range(rng.choice([0, 1, 1, 2])):
        at = rng.randrange(len(calls))
        name, hand, moves, deeds, same = calls[at]
        which = rng.choice(["hand", "hand", "same", "move", "fresh", "order"])
        if which == "hand" and hand != "last":
            hand = "new" if hand == "self" else "self"
            same = [] if hand == "self" else [field for field in many if rng.random() < 0.7]
        if which == "same" and hand != "self":
            same = [field for field in many if rng.random() < 0.5]
        if which == "move":
            moves[rng.randrange(len(moves))] = rng.choice([-1, *range(len(moves))])
        if which == "fresh" and many and len(deeds) < 4:
            deeds.insert(rng.randint(0, len(deeds)), ("fresh", rng.choice(many)))
        if which == "order":
            rng.shuffle(deeds)
        calls[at] = (name, hand, moves, deeds, same)
    return Kind(kind.fields(), calls, modes=kind.modes)


def role_kind(rng):
    """A kind with one list whose calls are let in in few modes each, so that several makers have parts of their own."""
    modes = rng.choice([2, 3, 3, 4])
    names = "pqrstu"[:rng.randint(4, 6)]
    forks = rng.choice([1, 1, 2])
    calls = []
    for at, name in enumerate(names):
        moves = [-1] * modes
        for mode in rng.sample(range(modes), rng.choice([1, 2, modes] if at < forks else [1, 1, 2])):
            moves[mode] = rng.randrange(modes) if at < forks or rng.random() < 0.3 else mode
        hand = "new" if at < forks else "last" if name == names[-1] else rng.choice(["self", "self", "new", "last"])
        deeds = [] if hand == "last" or at < forks else rng.choice([["add"], ["strike"], ["clear"], ["fresh", "add"]])
        same = [] if hand == "self" or rng.random() < 0.15 else ["a"]
        calls.append((name, hand, moves, [("add", "a")] if at == forks else [(deed, "a") for deed in deeds], same))
    return Kind([("a", "many", False)], calls, modes=modes)


def plain_kind(rng):
    """A kind of three calls in which modes alone count."""
    modes = rng.choice([2, 3])
    calls = [
        (name, hand, [rng.choice([-1, *range(modes)]) for _ in range(modes)], [], [])
        for name, hand in zip("pqr", [rng.choice(["self", "new"]), rng.choice(["self", "new", "last"]), "last"])
    ]
    return Kind([("a", "one", False)], calls, modes=modes)


def programs(kind, many, onward=False, words="xy"):
    """All programs of just this many rows, those of onward callers alone if they are asked for."""
    if many == 0:
        yield []
        return
    for ahead in programs(kind, many - 1, onward, words):
        yield [*ahead, MAKE]
        bases = [k for k, row in enumerate(ahead) if len(row) == 1 or kind[row[0]][1] != "last"]
        for k in bases[-1:] if onward else bases:
            for item in items(kind, kind.names(), words):
                yield [*ahead, (item[0], k, *item[1:])]


def items(kind, names, words="xy"):
    """All items of a row of calls with these names."""
    for name in names:
        if kind.takes(name):
            yield from [(name, word) for word in words]
        else:
            yield (name,)


def rows_of_calls(kind, many, words="xyz"):
    """All rows of this many calls, the last one alone with the hand "last"."""
    going_on = list(items(kind, [name for name in kind if kind[name][1] != "last"], words))
    lasts = list(items(kind, [name for name in kind if kind[name][1] == "last"], words))
    for ahead in itertools.product(going_on, repeat=many - 1):
        for last in lasts:
            yield [*ahead, last]


def shown(kind, rows):
    """What a program shows of a kind, [27]."""
    run = Run(kind, rows)
    return [
        thing and (("product", run.made(k), thing[1]) if thing[0] == "product" else "maker")
        for k, thing in enumerate(run.things())
    ]


def shown_but_idle(kind, rows, name):
    """What a program shows of its rows that are not of this call, if these hand what they were called on."""
    left, place = [], {}
    for k, row in enumerate(rows):
        if len(row) > 1 and row[0] == name:
            place[k] = place[row[1]]
        else:
            place[k] = len(left)
            left.append(row if len(row) == 1 else (row[0], place[row[1]], *row[2:]))
    told = shown(kind, left)
    return [told[place[k]] for k, row in enumerate(rows) if len(row) == 1 or row[0] != name]


def shown_of_others(kind, rows, name):
    """What a program shows of its rows that are not of this call."""
    return [x for x, row in zip(shown(kind, rows), rows) if len(row) == 1 or row[0] != name]


def as_chain(kind, row):
    """The contents of the product of a row of calls, done as a chain, or None."""
    return product_of(kind, [(item[0], k, *item[1:]) for k, item in enumerate(row)])


def as_statements(kind, row):
    """The contents of the product of a row of calls, done as statements, or None."""
    return product_of(kind, [(item[0], 0, *item[1:]) for item in row])


def product_of(kind, calls):
    run = Run(kind, [MAKE])
    for call in calls:
        run = run.further([call])
        if run.things()[-1] is None:
            return None
    return run.made(len(calls))

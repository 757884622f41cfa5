"""Kinds, programs and objects of all sorts for the tests."""

from makerlines.errors import BadField, MakerError
from makerlines.kinds import Kind
from makerlines.runs import Run

SHARES_FIELDS = [("a", "many", False)]
SHARES_CALLS = [
    ("add", "self", [0], [("add", "a")], []),
    ("build", "last", [0], [], ["a"]),
]


def shares():
    """The kind of [33]: the product shares its list with the maker."""
    return Kind(SHARES_FIELDS, SHARES_CALLS)


def hands_new(same=("a",)):
    """The kind of [34]: add hands a new maker, with this same."""
    return Kind(
        SHARES_FIELDS,
        [("add", "new", [0], [("add", "a")], list(same)), ("build", "last", [0], [], ["a"])],
    )


def named():
    """The kind of [35]: one needed field of sort "one"."""
    return Kind(
        [("name", "one", True)],
        [("set", "self", [0], [("set", "name")], []), ("build", "last", [0], [], [])],
    )


RICH_FIELDS = [("name", "one", True), ("tags", "many", False), ("parts", "many", True)]
RICH_CALLS = [
    ("label", "self", [1, 1, -1, 3], [("set", "name")], []),
    ("tag", "new", [0, 2, 2, -1], [("fresh", "tags"), ("add", "tags")], ["tags", "parts"]),
    ("drop", "self", [0, 1, 2, 3], [("strike", "tags"), ("clear", "name")], []),
    ("wipe", "new", [3, 3, 3, 3], [("clear", "parts"), ("clear", "tags")], ["parts"]),
    ("part", "self", [0, 1, 2, -1], [("add", "parts")], []),
    ("finish", "last", [-1, 2, 2, 3], [("clear", "name"), ("set", "name")], ["tags"]),
]


def rich():
    """Three fields, four modes, six calls, and every deed and hand."""
    return Kind(RICH_FIELDS, RICH_CALLS, modes=4)


PART = ("part", "new", [3, 2, -1, -1], [("clear", "a")], ["a"])
BRING = ("bring", "self", [-1, -1, -1, 3], [("add", "a")], [])
TAKE = ("take", "self", [1, -1, 2, -1], [("strike", "a")], [])
RENEW = ("renew", "self", [-1, -1, 2, -1], [("fresh", "a")], [])


def passes(hand):
    """The call of the next kinds that hands this or a new maker with a common list."""
    return ("pass", hand, [-1, -1, 2, -1], [("clear", "a")], ["a"] if hand == "new" else [])


def parts(hand):
    """A kind that is told from the one with another hand by four rows in view at once: nine rows in all."""
    end = ("end", "last", [-1, 1, -1, -1], [], [])
    return Kind(SHARES_FIELDS, [PART, BRING, TAKE, RENEW, passes(hand), end], modes=4)


def parts_late(hand):
    """A kind that is told from the one with another hand by three rows in view behind a product: eight rows in all."""
    calls = [
        ("end", "last", [3, -1, -1, -1], [], ["a"]), ("part", "new", [-1, 2, -1, 1], [("clear", "a")], ["a"]),
        ("bring", "self", [-1, 1, -1, -1], [("add", "a")], []),
        ("take", "self", [-1, -1, 2, -1], [("strike", "a")], []), RENEW, passes(hand),
    ]
    return Kind(SHARES_FIELDS, calls, modes=4)


def goes(same):
    """A kind that is told from the one with another same by three rows in view, seven rows in all."""
    return Kind(SHARES_FIELDS, [
        ("hand", "new", [1, -1, -1, -1], [], ["a"]), ("share", "new", [2, -1, -1, -1], [], same),
        ("go", "new", [3, -1, -1, -1], [], ["a"]), ("bring", "self", [-1, 1, -1, -1], [("add", "a")], []),
        ("take", "self", [-1, -1, 2, -1], [("strike", "a")], []), ("end", "last", [-1, -1, -1, 3], [], ["a"]),
    ], modes=4)


def any_objects():
    """Objects of all sorts, new ones each time."""
    return [
        None, True, False, 0, 1, -1, 7, 10 ** 5000, "", "a", "A", "x y", "make", "\n", "abcdefghi",
        [], (), [None], [[]], ["a"], ("make",), {}, {"a": 1}, {0: "make"},
        shares(), rich(), Run(shares()), Run(shares(), [("make",)]), MakerError(), BadField(0),
    ]


def other_than(*good):
    """Any objects but these, of which True and 1 are told apart."""
    return [x for x in any_objects() if not any(is_alike(x, y) for y in good)]


def is_alike(one, other):
    return isinstance(one, other.__class__) and isinstance(other, one.__class__) and one == other


def random_kind(rng):
    """A kind by this random source, of any size that there is."""
    modes = rng.randint(1, 4)
    fields = [
        (name, rng.choice(["one", "many", "many"]), rng.random() < 0.5)
        for name in rng.sample(["a", "b", "make", "abcdefgh"], rng.randint(1, 3))
    ]
    names = rng.sample(["add", "make", "z", "build", "longname", "fork", "set"], rng.randint(1, 6))
    return Kind(fields, [random_call(rng, name, fields, modes) for name in names], modes=modes)


def random_call(rng, name, fields, modes):
    hand = rng.choice(["self", "new", "last"])
    moves = [rng.choice([-1, *range(modes), *range(modes)]) for _ in range(modes)]
    deeds, worded = [], []
    for _ in range(rng.randint(0, 4)):
        field, sort, _need = rng.choice(fields)
        deed = rng.choice(["set", "clear"] if sort == "one" else ["add", "add", "strike", "fresh", "clear"])
        if deed in ("add", "strike"):
            if field in worded:
                continue
            worded.append(field)
        deeds.append((deed, field))
    many = [field for field, sort, _need in fields if sort == "many"]
    same = [] if hand == "self" else rng.sample(many, rng.randint(0, len(many)))
    return (name, hand, moves, deeds, same)


def random_rows(rng, kind, many):
    """A program of this many rows for the kind."""
    rows = []
    while len(rows) < many:
        bases = [k for k, row in enumerate(rows) if len(row) == 1 or kind[row[0]][1] != "last"]
        if not bases or rng.random() < 0.2:
            rows.append(("make",))
            continue
        name = rng.choice(kind.names())
        k = rng.choice(bases[-4:])
        rows.append((name, k, rng.choice("xyz")) if kind.takes(name) else (name, k))
    return rows

"""A second reading of [22], [23] and [24], with real makers that hold real lists."""

import copy

import oracle

WORD, OTHER = "x", "y"


class Scene:
    """Three lines at real makers; the first line's own value; the list of the product that is kept."""

    def __init__(self, kind, field, wish):
        self.lines = [oracle.blank(kind)] * 3
        self.own = oracle.blank(kind) if wish == "own" else None
        self.kept = None
        self.seen = None
        self.field = field


def content_of(maker, field, lists):
    held = maker.held[field]
    if not isinstance(held, list):
        return {None: 0, WORD: 1}.get(held, 2)
    for number, known in enumerate(lists):
        if known is held:
            return number
    lists.append(held)
    return len(lists) - 1


def standing_of(kind, scene):
    lists, told = [], []
    for at, maker in enumerate(scene.lines):
        same = [k for k in range(at) if scene.lines[k] is maker]
        told.append(same[0] if same else (maker.mode, content_of(maker, scene.field, lists)))
    kept = None
    if scene.kept is not None:
        kept = next((number for number, known in enumerate(lists) if known is scene.kept), len(lists))
        lists = lists[:kept] + [scene.kept] + lists[kept + 1:]
    seen = scene.seen
    if scene.own is not None:
        seen = (scene.own.mode, own_content(scene.own, scene.field))
    number = [name for name, sort, need in kind.fields()].index(scene.field)
    return (number, seen, *told, kept, tuple(int(WORD in known) for known in lists))


def own_content(own, field):
    held = own.held[field]
    return int(WORD in held) if isinstance(held, list) else {None: 0, WORD: 1}.get(held, 2)


def parts(lines):
    return [[line for at, line in enumerate(lines) if bits >> at & 1] for bits in range(1 << len(lines))]


def steps(kind, wish, callers, scene):
    """The scenes of all steps, with None for a call that breaks the wish."""
    for acting in [at for at in range(3) if not any(scene.lines[k] is scene.lines[at] for k in range(at))]:
        here = [line for line in range(3) if scene.lines[line] is scene.lines[acting]]
        for name in kind:
            words = [WORD] if wish == "complete" else [WORD, OTHER]
            for word in words if kind.takes(name) else [None]:
                row = (name, 0) if word is None else (name, 0, word)
                for along in [[0, 1, 2]] if callers == "onward" else parts(here):
                    yield from step(kind, wish, scene, acting, row, along)


def step(kind, wish, scene, acting, row, along):
    scene = copy.deepcopy(scene)
    before = scene.lines[acting]
    need = dict((name, need) for name, sort, need in kind.fields())[scene.field]
    handed = oracle.called(kind, before, row)
    if wish == "own" and 0 in along:
        value = oracle.Maker(scene.own.mode, oracle.share_or_copy(scene.own.held, ()))
        own = oracle.called(kind, value, row)
        if (handed is None) != (own is None):
            yield None
            return
        if own is not None and kind[row[0]][1] != "last":
            scene.own = own
        elif own is not None and own_content(handed, scene.field) != own_content(own, scene.field):
            yield None
    if handed is None:
        return
    if kind[row[0]][1] == "new":
        for line in along:
            scene.lines[line] = handed
    if wish == "complete" and kind[row[0]][1] == "last" and need and not handed.held[scene.field]:
        yield None
    if scene.kept is not None and int(WORD in scene.kept) != scene.seen:
        yield None
    yield scene
    if wish == "steady" and kind[row[0]][1] == "last" and scene.kept is None:
        if scene.field in kind[row[0]][4]:
            scene = copy.deepcopy((scene, handed))
            scene, handed = scene
            scene.kept = handed.held[scene.field]
            scene.seen = int(WORD in scene.kept)
            yield scene


def judged(kind, wish, callers):
    """("broken", number of calls) or ("holds", set of standings)."""
    level = [
        Scene(kind, name, wish) for name, sort, need in kind.fields() if sort == "many" or wish != "steady"
    ]
    reached = {standing_of(kind, scene) for scene in level}
    calls = 0
    while level:
        further = []
        calls += 1
        for scene in level:
            for behind in steps(kind, wish, callers, scene):
                if behind is None:
                    return ("broken", calls)
                standing = standing_of(kind, behind)
                if standing not in reached:
                    reached.add(standing)
                    further.append(behind)
        level = further
    return ("holds", reached)

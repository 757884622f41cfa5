"""A second reading of [12], [13], [14] and [19], with real objects that share real lists."""


class Maker:
    def __init__(self, mode, held):
        self.mode = mode
        self.held = held


class Product:
    def __init__(self, held):
        self.held = held
        self.early = snapshot(held)


def snapshot(held):
    return [list(x) if isinstance(x, list) else x for x in held.values()]


def blank(kind):
    return Maker(0, {name: [] if sort == "many" else None for name, sort, need in kind.fields()})


def share_or_copy(held, same):
    return {
        name: list(x) if isinstance(x, list) and name not in same else x for name, x in held.items()
    }


def do(held, deeds, word):
    for deed, field in deeds:
        if deed == "set":
            held[field] = word
        elif deed == "add":
            held[field].append(word)
        elif deed == "strike":
            while word in held[field]:
                held[field].remove(word)
        elif deed == "fresh":
            held[field] = list(held[field])
        elif isinstance(held[field], list):
            held[field].clear()
        else:
            held[field] = None


def called(kind, maker, row):
    name, hand, moves, deeds, same = kind[row[0]]
    if maker is None or moves[maker.mode] == -1:
        return None
    word = row[2] if len(row) == 3 else None
    if hand == "new":
        maker = Maker(moves[maker.mode], share_or_copy(maker.held, same))
    else:
        maker.mode = moves[maker.mode]
    do(maker.held, deeds, word)
    return Product(share_or_copy(maker.held, same)) if hand == "last" else maker


def handed(kind, rows):
    """What each row of a program hands: a Maker, a Product or None."""
    out = []
    for row in rows:
        out.append(blank(kind) if len(row) == 1 else called(kind, out[row[1]], row))
    return out


def told(thing):
    if thing is None:
        return None
    if isinstance(thing, Maker):
        return ("maker", thing.mode, snapshot(thing.held))
    return ("product", snapshot(thing.held))


def own_thing(kind, rows, k):
    """What row k hands in the own reading: its own line alone, done on copies all the way."""
    if len(rows[k]) == 1:
        return blank(kind)
    maker = own_thing(kind, rows, rows[k][1])
    if maker is None:
        return None
    return called(kind, Maker(maker.mode, share_or_copy(maker.held, ())), rows[k])


def is_onward(kind, rows):
    for at, row in enumerate(rows):
        if len(row) > 1:
            ahead = [k for k in range(at) if len(rows[k]) == 1 or kind[rows[k][0]][1] != "last"]
            if row[1] != ahead[-1]:
                return False
    return True

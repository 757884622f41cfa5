"""Least machines of rows of names."""

DONE = -1


def least_machine(walk):
    """Return the least machine of a walk: for each state a list of pairs (name, state), in the walk's order.

    The walk has start() and ways(place), which returns pairs (name, place), with the place DONE
    where a row can end. States are numbered as they are named, -1 is DONE.
    """
    table = useful_ways(all_ways(walk))
    if walk.start() not in table:
        return []
    classes = told_apart(table)
    numbers = {classes[walk.start()]: 0}
    places = [walk.start()]
    machine = []
    # The list of places grows while their pairs are told, so it is not iterated over.
    while len(machine) < len(places):
        pairs = []
        for name, place in table[places[len(machine)]]:
            if place == DONE:
                pairs.append((name, DONE))
                continue
            if classes[place] not in numbers:
                numbers[classes[place]] = len(places)
                places.append(place)
            pairs.append((name, numbers[classes[place]]))
        machine.append(pairs)
    return machine


def all_ways(walk):
    """Return the ways of all places that can be reached, under their places."""
    table = {}
    waiting = [walk.start()]
    while len(waiting) > 0:
        place = waiting.pop()
        if place not in table:
            table[place] = walk.ways(place)
            waiting.extend([reached for name, reached in table[place] if reached != DONE])
    return table


def useful_ways(table):
    """Return of a table the places from which a row can end, with the ways to such places."""
    useful = useful_places(table)
    trimmed = {}
    for place in table:
        if place in useful:
            trimmed[place] = [way for way in table[place] if way[1] == DONE or way[1] in useful]
    return trimmed


def useful_places(table):
    """Return a dict of the places of a table from which a row can end."""
    sources = {place: [] for place in table}
    ends = []
    for place in table:
        for name, reached in table[place]:
            if reached == DONE:
                ends.append(place)
            else:
                sources[reached].append(place)
    useful = {}
    while len(ends) > 0:
        end = ends.pop()
        if end not in useful:
            useful[end] = True
            ends.extend(sources[end])
    return useful


def told_apart(table):
    """Return for each place the number of its class: places with the same rests are in one."""
    classes = {place: 0 for place in table}
    many = 0
    while many < number_of_classes(classes):
        many = number_of_classes(classes)
        numbers = {}
        finer = {}
        for place in table:
            rests = tuple([(name, DONE if to == DONE else classes[to]) for name, to in table[place]])
            finer[place] = numbers.setdefault((classes[place], rests), len(numbers))
        classes = finer
    return classes


def number_of_classes(classes):
    """Return how many classes there are."""
    return len(set(list(classes.values())))

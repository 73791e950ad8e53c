"""What the document defines, as it words it, without the package's functions."""

from trials import lies_above, lies_in


def plain_least(lots):
    """The same as least_of, as the document words it."""
    return tuple(sorted({lot for lot in lots if not any(
        lies_above(lot, other) and lot != other for other in lots)}))


def plain_step_back(lot, machine, step):
    """The same as back, for a step as it stands, as the document words it."""
    start, action, end = step
    places, words = list(lot[0]), list(lot[1])
    if places[machine] != end or action[0] == "test" and words[action[1]]:
        return None
    places[machine] = start
    if action[0] == "take":
        words[action[1]] = (action[2],) + words[action[1]]
    if action[0] == "send" and words[action[1]] and words[action[1]][-1] <= action[2]:
        words[action[1]] = words[action[1]][:-1]
    return tuple(places), tuple(words)


def plain_back(program, lot):
    """The same as all_back, as the document words it."""
    found = {plain_step_back(lot, machine, step) for machine, (_, steps) in enumerate(program[2]) for step in steps}
    return found - {None}


def plain_layers(program, situation, most=60):
    """The layers up to the closed list, and how many lots are taken in up to each of them."""
    layers, taken = [plain_least(situation)], [set(plain_least(situation))]
    while len(taken[-1]) <= most and (len(layers) < 2 or layers[-1] != layers[-2]):
        found = set(layers[-1])
        for lot in layers[-1]:
            found |= plain_back(program, lot)
        layers.append(plain_least(found))
        taken.append(taken[-1] | set(layers[-1]))
    return layers, [len(lots) for lots in taken]


def plain_reach(program, lot, situation, most=60):
    """The distance or None, and how many lots are taken in for it; False and None if more than most."""
    layer, k = plain_least(situation), 0
    taken = set(layer)
    while len(taken) <= most and max(len(word) for _, words in taken for word in words) <= 60:
        if lies_in(lot, layer):
            return k, len(taken)
        following = plain_least(set(layer).union(*[plain_back(program, other) for other in layer]))
        if following == layer:
            return None, len(taken)
        layer, k = following, k + 1
        taken.update(layer)
    return False, None

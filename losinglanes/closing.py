"""Closed lists: the least lots from which some run leads into a situation."""

from losinglanes.backwards import all_back
from losinglanes.errors import LimitExceeded
from losinglanes.programs import LONGEST_WORD
from losinglanes.steps import is_above_one


def weight_of(lot):
    """Return a number that is less for each different lot that the lot is above."""
    _, words = lot
    return sum([len(word) + sum(word) for word in words])


def least_of(lots):
    """Return the set of those of the lots that are above no different one of them."""
    least = []
    # A lot can be above those of less weight only, so what has been found stays least.
    for lot in sorted(lots, key=weight_of):
        if not is_above_one(lot, least):
            least.append(lot)
    return tuple(sorted(least))


def are_above(lots, others):
    """Return whether each of the lots is above one of the others."""
    for lot in lots:
        if not is_above_one(lot, others):
            return False
    return True


def is_closed(program, situation, lots):
    """Return whether the set of lots is closed for the situation."""
    if not are_above(situation, lots):
        return False
    for lot in lots:
        if not are_above(all_back(program, lot), lots):
            return False
    return True


def new_behind(program, lots, new):
    """Return the lots that the next layer has and this one lacks.

    lots are those of this layer, new those of them that the layer before lacks. Each lot one step
    back from another one of them is above one of this layer already.
    """
    found = [other for lot in new for other in all_back(program, lot)]
    return least_of([other for other in found if not is_above_one(other, lots)])


def joined(lots, new):
    """Return the next layer, made of the lots of this one and those that it lacks."""
    kept = [lot for lot in lots if not is_above_one(lot, new)]
    return tuple(sorted([*kept, *new]))


def has_long_word(lots):
    """Return whether one of the lots has a word that is longer than a lot's may be."""
    return max([len(word) for _, words in lots for word in words]) > LONGEST_WORD


def layers(program, situation, tries):
    """Yield the layers of the situation in turn, the closed list last, or raise LimitExceeded.

    Each one is a pair: all its lots, and those of them that the layer before lacks.
    """
    lots = ()
    new = least_of(situation)
    taken = 0
    while len(new) > 0:
        # A lot that a layer has left out is above one of each later layer, so none is new twice.
        taken += len(new)
        if taken > tries or has_long_word(new):
            raise LimitExceeded(tries)
        lots = joined(lots, new)
        yield lots, new
        new = new_behind(program, lots, new)


def layer(program, situation, k, *, tries=400):
    """Return the layer k of the situation, or raise LimitExceeded."""
    found = ()
    for index, (lots, _) in enumerate(layers(program, situation, tries)):
        found = lots
        if index == k:
            break
    # Each layer behind the closed list is the same as it.
    return found


def closed_list(program, situation, *, tries=400):
    """Return the closed list of the situation, or raise LimitExceeded."""
    found = ()
    for lots, _ in layers(program, situation, tries):
        found = lots
    return found

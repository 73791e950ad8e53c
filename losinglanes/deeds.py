"""Deeds: what a step, a loss and a wear make of a lot, or why they cannot be."""

from losinglanes.errors import CannotDo, CannotLose, CannotWear
from losinglanes.forms import is_index, is_tuple_of
from losinglanes.steps import done, exchanged

MOST_DEEDS = 200


def is_deed(value):
    """Return whether value is a triple that begins with the word of a deed."""
    return is_tuple_of(value, 3, 3) and (value[0] == "do" or value[0] == "lose" or value[0] == "wear")


def are_deeds(value):
    """Return whether value is a tuple of as many deeds as may be done at once."""
    return is_tuple_of(value, 0, MOST_DEEDS) and all([is_deed(deed) for deed in value])


def has_letter(lot, lane, position):
    """Return whether the lot has this lane, and its word this position."""
    _, words = lot
    return is_index(lane, len(words)) and is_index(position, len(words[lane]))


def lot_with_word(lot, lane, word):
    """Return the lot with another word in this lane."""
    places, words = lot
    return places, exchanged(words, lane, word)


def after_do(program, lot, machine, index):
    """Return the lot after the machine's step, or raise CannotDo; machine and index are any values."""
    _, _, machines = program
    if not is_index(machine, len(machines)) or not is_index(index, len(machines[machine][1])):
        raise CannotDo()
    return done(program, lot, machine, index)


def after_loss(lot, lane, position):
    """Return the lot without this letter, or raise CannotLose; lane and position are any values."""
    if not has_letter(lot, lane, position):
        raise CannotLose()
    word = lot[1][lane]
    return lot_with_word(lot, lane, word[:position] + word[position + 1:])


def after_wear(lot, lane, position):
    """Return the lot with this letter less by one, or raise CannotWear; all but lot are any values."""
    if not has_letter(lot, lane, position) or lot[1][lane][position] == 0:
        raise CannotWear()
    word = lot[1][lane]
    return lot_with_word(lot, lane, exchanged(word, position, word[position] - 1))


def after_deed(program, lot, deed):
    """Return the lot after the deed, or raise CannotDo, CannotLose or CannotWear."""
    word, one, other = deed
    if word == "do":
        return after_do(program, lot, one, other)
    if word == "lose":
        return after_loss(lot, one, other)
    return after_wear(lot, one, other)

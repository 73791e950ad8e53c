"""Steps: what each of them needs and does, and which lots are above which."""

from losinglanes.errors import CannotDo
from losinglanes.words import are_within


def is_above(lot, other):
    """Return whether the lot has the places of the other one, and its words within its own."""
    places, words = lot
    other_places, other_words = other
    return places == other_places and are_within(other_words, words)


def is_above_one(lot, others):
    """Return whether the lot is above one of the others."""
    for other in others:
        if is_above(lot, other):
            return True
    return False


def step_at(program, machine, index):
    """Return the step of this index of the machine."""
    _, _, machines = program
    _, steps = machines[machine]
    return steps[index]


def all_steps(program):
    """Return the pairs (machine, index) of all steps, in their order."""
    _, _, machines = program
    return [(at, index) for at, machine in enumerate(machines) for index in range(len(machine[1]))]


def exchanged(row, at, part):
    """Return the row with another part at this index."""
    return row[:at] + (part,) + row[at + 1:]


def lets_do(words, action):
    """Return whether lanes with these words let the action be done, without losing."""
    if action[0] == "take":
        _, lane, letter = action
        return words[lane][:1] == (letter,)
    if action[0] == "test":
        return words[action[1]] == ()
    return True


def words_after(words, action):
    """Return the words of the lanes after an action that can be done."""
    if action[0] == "send":
        _, lane, letter = action
        return exchanged(words, lane, words[lane] + (letter,))
    if action[0] == "take":
        lane = action[1]
        return exchanged(words, lane, words[lane][1:])
    return words


def can_do(program, lot, machine, index):
    """Return whether the machine's step can be done in the lot, without losing."""
    places, words = lot
    start, action, _ = step_at(program, machine, index)
    return places[machine] == start and lets_do(words, action)


def done(program, lot, machine, index):
    """Return the lot after the machine's step, or raise CannotDo."""
    if not can_do(program, lot, machine, index):
        raise CannotDo()
    places, words = lot
    _, action, end = step_at(program, machine, index)
    return exchanged(places, machine, end), words_after(words, action)


def steps_of(program, lot):
    """Return the pairs (machine, index) of the steps that can be done in the lot."""
    return tuple([(at, index) for at, index in all_steps(program) if can_do(program, lot, at, index)])

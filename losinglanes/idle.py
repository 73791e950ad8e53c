"""Idle steps: those that no run from the first lot ever takes."""

from losinglanes.programs import first_lot
from losinglanes.reaching import can_come
from losinglanes.steps import all_steps, exchanged, step_at


def least_words(program, action):
    """Return the least words of the lanes with which the action can be done."""
    lanes, _, _ = program
    words = ((),) * lanes
    if action[0] == "take":
        _, lane, letter = action
        return exchanged(words, lane, (letter,))
    return words


def all_places(program, machine, place):
    """Return the rows of places of all machines, in their order, with this place of the machine."""
    _, _, machines = program
    rows = [()]
    for at, (many, _) in enumerate(machines):
        own = [place] if at == machine else list(range(many))
        rows = [row + (other,) for row in rows for other in own]
    return rows


def situation_of(program, machine, index):
    """Return the situation of the step: the set of the least lots in which it can be done."""
    start, action, _ = step_at(program, machine, index)
    words = least_words(program, action)
    return tuple([(places, words) for places in all_places(program, machine, start)])


def is_idle(program, machine, index, *, tries=400):
    """Return whether no run from the first lot has an entry for the step, or raise LimitExceeded."""
    return not can_come(program, first_lot(program), situation_of(program, machine, index), tries=tries)


def idle_steps(program, *, tries=400):
    """Return the set of the pairs (machine, index) of all idle steps, or raise LimitExceeded."""
    return tuple([(at, index) for at, index in all_steps(program) if is_idle(program, at, index, tries=tries)])

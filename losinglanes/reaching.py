"""Reaching: whether a situation can come about from a lot, and by how few entries of a run."""

from losinglanes.backwards import back
from losinglanes.closing import layers
from losinglanes.steps import all_steps, is_above


def lot_below(lot, others):
    """Return the first one of the others that the lot is above, or None."""
    for other in others:
        if is_above(lot, other):
            return other
    return None


def search(program, lot, situation, tries):
    """Look for the first layer of the situation that has a lot below the given one.

    Returns for each layer up to it the lots that the one before lacks, and the last layer's lot
    below the given one. If no layer has one, these are all the layers, and the lot is None.
    """
    rows = []
    for _, new in layers(program, situation, tries):
        rows.append(new)
        # No layer before had a lot below the given one, so this one's is new if there is one.
        below = lot_below(lot, new)
        if below is not None:
            return rows, below
    return rows, None


def step_between(program, lot, targets):
    """Return a target from which the lot is one step back, and the machine and index of the step."""
    for target in targets:
        for machine, index in all_steps(program):
            if back(program, target, machine, index) == lot:
                return target, machine, index
    return None


def run_down(program, rows, lot):
    """Return the run from a lot of the last row that goes through the rows in turn, to the first one."""
    entries = []
    at = lot
    for row in reversed(rows[:-1]):
        # Each lot of a row was made one step back from one of the row ahead of it.
        target, machine, index = step_between(program, at, row)
        _, words = at
        entries.append((words, machine, index))
        at = target
    return tuple(entries)


def can_come(program, lot, situation, *, tries=400):
    """Return whether the situation can come about from the lot, or raise LimitExceeded."""
    _, below = search(program, lot, situation, tries)
    return below is not None


def distance(program, lot, situation, *, tries=400):
    """Return the least number of entries of a run from the lot into the situation, or None."""
    rows, below = search(program, lot, situation, tries)
    if below is None:
        return None
    return len(rows) - 1


def shortest_run(program, lot, situation, *, tries=400):
    """Return a run from the lot into the situation with as few entries as there can be, or None."""
    rows, below = search(program, lot, situation, tries)
    if below is None:
        return None
    return run_down(program, rows, below)

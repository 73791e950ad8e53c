"""Runs: the lots that they go through, and the situations that they lead into."""

from losinglanes.errors import CannotDo, Stuck
from losinglanes.steps import done, is_above_one
from losinglanes.words import are_within


def lot_after(program, lot, entry):
    """Return the lot after one entry of a run, or raise CannotDo."""
    entry_words, machine, index = entry
    places, words = lot
    if not are_within(entry_words, words):
        raise CannotDo()
    return done(program, (places, entry_words), machine, index)


def lots_of(program, lot, entries):
    """Return the lots that the run goes through, from lot on, or raise Stuck."""
    lots = [lot]
    for index, entry in enumerate(entries):
        try:
            after = lot_after(program, lots[-1], entry)
        except CannotDo:
            raise Stuck(index) from None
        lots.append(after)
    return tuple(lots)


def is_in(lot, situation):
    """Return whether the lot is in the situation."""
    return is_above_one(lot, situation)


def leads_into(program, lot, entries, situation):
    """Return whether the run can be done from the lot and its last lot is in the situation."""
    try:
        lots = lots_of(program, lot, entries)
    except Stuck:
        return False
    return is_in(lots[-1], situation)

"""Lists on paper: they show that a situation cannot come about, or not by fewer entries."""

from losinglanes.backwards import back
from losinglanes.closing import least_of
from losinglanes.steps import all_steps, is_above


def target_for(ranked, lot, most):
    """Return the index of the first lot of at most this rank that the given one is above."""
    for at, (other, rank) in enumerate(ranked):
        if rank <= most and is_above(lot, other):
            return at
    return None


def targets_of(program, ranked, lot, rank):
    """Return for each step what the lot one step back from a lot of this rank is above, or None."""
    targets = []
    for machine, index in all_steps(program):
        before = back(program, lot, machine, index)
        targets.append(None if before is None else target_for(ranked, before, rank + 1))
    return tuple(targets)


def triples_of(program, ranked, last):
    """Return the list of these lots, each with its rank; those of the last rank have no targets."""
    nowhere = (None,) * len(all_steps(program))
    triples = []
    for lot, rank in ranked:
        targets = nowhere if rank == last else targets_of(program, ranked, lot, rank)
        triples.append((lot, rank, targets))
    return tuple(triples)


def plain_list(program, rows):
    """Return the list without a bound, made of what each layer up to the closed list adds."""
    closed = least_of([lot for row in rows for lot in row])
    return triples_of(program, [(lot, 0) for lot in closed], None)


def bounded_list(program, rows, bound):
    """Return the list with the bound, made of what each layer ahead of the bound adds."""
    ranked = sorted([(lot, rank) for rank, row in enumerate(rows[:bound]) for lot in row])
    return triples_of(program, ranked, bound - 1)

"""The checker: the first fault of a certificate, whoever wrote it."""

from losinglanes.backwards import back
from losinglanes.claims import is_claim
from losinglanes.errors import Stuck
from losinglanes.forms import is_tuple_of
from losinglanes.idle import situation_of
from losinglanes.mends import choices_up_to, cost_of, with_choice
from losinglanes.paperforms import has_form
from losinglanes.programs import first_lot
from losinglanes.runs import lots_of
from losinglanes.steps import all_steps, is_above, is_above_one


def apart_fault(situation, triples):
    """Return the fault that a lot of the situation is above none of rank 0, or None."""
    nearest = [lot for lot, rank, _ in triples if rank == 0]
    for lot in situation:
        if not is_above_one(lot, nearest):
            return "apart", lot
    return None


def is_right_target(triples, rank, before, target):
    """Return whether the target is right for the lot one step back from a lot of the rank, or None."""
    if before is None or target is None:
        return before is None and target is None
    lot, target_rank, _ = triples[target]
    return target_rank <= rank + 1 and is_above(before, lot)


def target_fault(program, triples, last):
    """Return the fault of the first target that is not right, or None."""
    for at, (lot, rank, targets) in enumerate(triples):
        for (machine, index), target in zip(all_steps(program), targets):
            # What lies one step back from a lot of the last rank is beyond the bound.
            before = None if rank == last else back(program, lot, machine, index)
            if not is_right_target(triples, rank, before, target):
                return "target", at, machine, index
    return None


def list_fault(program, lot, situation, triples, bound=None):
    """Return the first fault of a list, with a bound or without one, or None."""
    fault = None
    if bound != 0:
        fault = apart_fault(situation, triples)
    if fault is None:
        fault = target_fault(program, triples, None if bound is None else bound - 1)
    if fault is None and is_above_one(lot, [other for other, _, _ in triples]):
        fault = ("begins",)
    return fault


def stuck_fault(program, lot, run):
    """Return the fault of the first entry that cannot be done, or None."""
    try:
        lots_of(program, lot, run)
    except Stuck as stuck:
        return "step", stuck.index
    return None


def run_fault(program, lot, situation, run):
    """Return the first fault of a run, or None."""
    fault = stuck_fault(program, lot, run)
    if fault is None and not is_above_one(lots_of(program, lot, run)[-1], situation):
        fault = ("misses",)
    return fault


def part_fault(program, lot, situation, listed, part):
    """Return the first fault of a list without a bound, or of a run if it is none."""
    if listed:
        return list_fault(program, lot, situation, part)
    return run_fault(program, lot, situation, part)


def shown_distance_fault(claim, paper):
    """Return the first fault of a paper that shows a distance, or None."""
    _, program, lot, situation, n = claim
    if n is None:
        return list_fault(program, lot, situation, paper)
    run, triples = paper
    if len(run) != n:
        return ("long",)
    fault = run_fault(program, lot, situation, run)
    if fault is None:
        fault = list_fault(program, lot, situation, triples, n)
    return fault


def broken_distance_fault(claim, paper):
    """Return the first fault of a paper that breaks a distance, or None."""
    _, program, lot, situation, n = claim
    word, part = paper
    if word == "farther":
        return list_fault(program, lot, situation, part, n + 1)
    if n is not None and len(part) >= n:
        return ("long",)
    return run_fault(program, lot, situation, part)


def idle_fault(claim, shown, paper):
    """Return the first fault of a paper for an idle step, or None."""
    _, program, machine, index = claim
    lot = first_lot(program)
    if shown:
        return list_fault(program, lot, situation_of(program, machine, index), paper)
    fault = stuck_fault(program, lot, paper)
    if fault is None and [entry[1:] for entry in paper[-1:]] != [(machine, index)]:
        fault = ("last",)
    return fault


def grounds_fault(claim, choice, grounds):
    """Return the first fault of the grounds in the program that the choice changes, or None."""
    _, program, wishes, options, _ = claim
    changed = with_choice(program, options, choice)
    for at, (word, situation) in enumerate(wishes):
        fault = part_fault(changed, first_lot(changed), situation, word == "never", grounds[at])
        if fault is not None:
            return "ground", at, fault
    return None


def breaks_fault(claim, most, breaks):
    """Return the first fault of the breaks for the choices that cost at most so much, or None."""
    _, program, wishes, options, _ = claim
    asked = choices_up_to(program, options, most)
    for at, choice in enumerate(asked):
        changed = with_choice(program, options, choice)
        wish, part = breaks[at]
        word, situation = wishes[wish]
        fault = part_fault(changed, first_lot(changed), situation, word == "can", part)
        if fault is not None:
            return "break", at, fault
    return None


def shown_mend_fault(claim, paper):
    """Return the first fault of a paper that shows a mend, or None."""
    _, _, _, options, n = claim
    if n is None:
        return breaks_fault(claim, None, paper)
    choice, grounds, breaks = paper
    if cost_of(options, choice) != n:
        return ("cost",)
    fault = grounds_fault(claim, choice, grounds)
    if fault is None:
        fault = breaks_fault(claim, n - 1, breaks)
    return fault


def broken_mend_fault(claim, paper):
    """Return the first fault of a paper that breaks a mend, or None."""
    _, _, _, options, n = claim
    if paper[0] == "more":
        return breaks_fault(claim, n, paper[1])
    _, choice, grounds = paper
    if n is not None and cost_of(options, choice) >= n:
        return ("cost",)
    return grounds_fault(claim, choice, grounds)


def paper_fault(verdict, claim, paper):
    """Return the first fault of a paper that has the form that is due, or None."""
    shown = verdict == "shown"
    kind = claim[0]
    if kind == "never":
        _, program, lot, situation = claim
        return part_fault(program, lot, situation, shown, paper)
    if kind == "idle":
        return idle_fault(claim, shown, paper)
    if kind == "distance":
        return shown_distance_fault(claim, paper) if shown else broken_distance_fault(claim, paper)
    return shown_mend_fault(claim, paper) if shown else broken_mend_fault(claim, paper)


def first_fault(certificate):
    """Return None for a right certificate, else its first fault; certificate is any value."""
    if not is_tuple_of(certificate, 3, 3):
        return ("form",)
    verdict, claim, paper = certificate
    if not is_claim(claim):
        return ("claim",)
    if not has_form(verdict, claim, paper):
        return ("paper",)
    return paper_fault(verdict, claim, paper)

"""Claims: whether any value is one, and certificates that show or break them."""

from losinglanes.errors import InvalidClaim
from losinglanes.forms import is_index, is_integer_in, is_tuple_of
from losinglanes.idle import situation_of
from losinglanes.mends import are_options, choices, cost_of, with_choice
from losinglanes.papers import bounded_list, plain_list
from losinglanes.programs import first_lot, is_lot, is_program, is_situation
from losinglanes.reaching import run_down, search

# Each word with the number of parts of its claims.
KINDS = (("never", 4), ("distance", 5), ("idle", 4), ("mend", 5))
MOST_WISHES = 3
MOST_DISTANCE = 400
MOST_MEND_COST = 300


def has_kind(claim):
    """Return whether claim is a tuple that begins with a claim's word and has as many parts."""
    if not is_tuple_of(claim, 4, 5):
        return False
    return any([claim[0] == word and len(claim) == many for word, many in KINDS])


def is_number(value, most):
    """Return whether value is None or an integer from 0 to most."""
    return value is None or is_integer_in(value, 0, most)


def is_wish(program, value):
    """Return whether value is a wish for the program."""
    if not is_tuple_of(value, 2, 2):
        return False
    word, situation = value
    return (word == "never" or word == "can") and is_situation(program, situation)


def are_wishes(program, value):
    """Return whether value is a tuple of wishes for the program."""
    return is_tuple_of(value, 1, MOST_WISHES) and all([is_wish(program, wish) for wish in value])


def wrong_in_reach(claim):
    """Return the name of the first wrong part behind the program, or None: of "never", "distance"."""
    program, lot, situation = claim[1:4]
    if not is_lot(program, lot):
        return "lot"
    if not is_situation(program, situation):
        return "situation"
    if claim[0] == "distance" and not is_number(claim[4], MOST_DISTANCE):
        return "n"
    return None


def wrong_in_idle(claim):
    """Return the name of the first wrong part behind the program, or None: of "idle"."""
    _, program, machine, index = claim
    _, _, machines = program
    if not is_index(machine, len(machines)):
        return "machine"
    if not is_index(index, len(machines[machine][1])):
        return "index"
    return None


def wrong_in_mend(claim):
    """Return the name of the first wrong part behind the program, or None: of "mend"."""
    _, program, wishes, options, n = claim
    if not are_wishes(program, wishes):
        return "wishes"
    if not are_options(program, options):
        return "options"
    if not is_number(n, MOST_MEND_COST):
        return "n"
    return None


def wrong_part(claim):
    """Return the name of the first wrong part of a value that has a claim's kind, or None."""
    kind, program = claim[:2]
    if not is_program(program):
        return "program"
    if kind == "idle":
        return wrong_in_idle(claim)
    if kind == "mend":
        return wrong_in_mend(claim)
    return wrong_in_reach(claim)


def require_claim(claim):
    """Return claim if it is one, else raise InvalidClaim with its first wrong part."""
    if not has_kind(claim):
        raise InvalidClaim("kind")
    part = wrong_part(claim)
    if part is not None:
        raise InvalidClaim(part)
    return claim


def is_claim(value):
    """Return whether value is a claim."""
    try:
        require_claim(value)
    except InvalidClaim:
        return False
    return True


def never_verdict(program, lot, situation, tries):
    """Return whether it is shown or broken that the situation never comes about, and the paper."""
    rows, below = search(program, lot, situation, tries)
    if below is None:
        return "shown", plain_list(program, rows)
    return "broken", run_down(program, rows, below)


def distance_verdict(program, lot, situation, n, tries):
    """Return whether it is shown or broken that the distance is n, and the paper."""
    rows, below = search(program, lot, situation, tries)
    if below is None and n is None:
        return "shown", plain_list(program, rows)
    if below is None or n is not None and n < len(rows) - 1:
        return "broken", ("farther", bounded_list(program, rows, n + 1))
    run = run_down(program, rows, below)
    if n == len(run):
        return "shown", (run, bounded_list(program, rows, n))
    return "broken", ("nearer", run)


def idle_verdict(program, machine, index, tries):
    """Return whether it is shown or broken that the step is idle, and the paper."""
    situation = situation_of(program, machine, index)
    verdict, paper = never_verdict(program, first_lot(program), situation, tries)
    if verdict == "shown":
        return verdict, paper
    # All lots of the situation have the same words, the least ones with which the step can be done.
    _, words = situation[0]
    return verdict, paper + ((words, machine, index),)


def looked_at(program, wishes, tries):
    """Look at the wishes up to the first one that is not kept.

    Returns the grounds of all and None if all are kept, else None and the break: the index of the
    wish, and what shows that it is not kept.
    """
    grounds = []
    for index, (word, situation) in enumerate(wishes):
        verdict, paper = never_verdict(program, first_lot(program), situation, tries)
        if (verdict == "shown") != (word == "never"):
            return None, (index, paper)
        grounds.append(paper)
    return tuple(grounds), None


def breaks_up_to(breaks, most):
    """Return those of the breaks, each here with a choice's cost, whose choice costs at most so much."""
    return tuple([found for cost, found in breaks if cost <= most])


def found_verdict(choice, cost, grounds, breaks, n):
    """Return the same as mend_verdict where this choice is the first one that mends."""
    if n == cost:
        return "shown", (choice, grounds, breaks_up_to(breaks, n - 1))
    if n is None or cost < n:
        return "broken", ("less", choice, grounds)
    return "broken", ("more", breaks_up_to(breaks, n))


def mend_verdict(program, wishes, options, n, tries):
    """Return whether it is shown or broken that n is the least cost of a mend, and the paper."""
    breaks = []
    for choice in choices(program, options):
        cost = cost_of(options, choice)
        grounds, missed = looked_at(with_choice(program, options, choice), wishes, tries)
        if missed is None:
            return found_verdict(choice, cost, grounds, breaks, n)
        breaks.append((cost, missed))
    if n is None:
        return "shown", tuple([missed for _, missed in breaks])
    return "broken", ("more", breaks_up_to(breaks, n))


def verdict_of(claim, tries):
    """Return the verdict on a claim and its paper, or raise LimitExceeded."""
    kind = claim[0]
    if kind == "never":
        _, program, lot, situation = claim
        return never_verdict(program, lot, situation, tries)
    if kind == "distance":
        _, program, lot, situation, n = claim
        return distance_verdict(program, lot, situation, n, tries)
    if kind == "idle":
        _, program, machine, index = claim
        return idle_verdict(program, machine, index, tries)
    _, program, wishes, options, n = claim
    return mend_verdict(program, wishes, options, n, tries)


def decide(claim, *, tries=400):
    """Return a certificate that shows or breaks the claim; raise InvalidClaim or LimitExceeded."""
    require_claim(claim)
    verdict, paper = verdict_of(claim, tries)
    return verdict, claim, paper

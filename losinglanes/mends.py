"""Mends: wishes for a program, and the cheapest change of its steps by which it keeps them all."""

from losinglanes.errors import InvalidOptions
from losinglanes.forms import is_index, is_integer_in, is_tuple_of
from losinglanes.programs import MOST_STEPS, first_lot, is_step
from losinglanes.reaching import can_come

MOST_OPTIONS = 3
MOST_COST = 99


def keeps(program, wish, *, tries=400):
    """Return whether the program keeps the wish, or raise LimitExceeded."""
    word, situation = wish
    return can_come(program, first_lot(program), situation, tries=tries) == (word == "can")


def is_option(program, value):
    """Return whether value is an option for the program."""
    if not is_tuple_of(value, 4, 4):
        return False
    word, machine, step, cost = value
    lanes, letters, machines = program
    if not is_index(machine, len(machines)) or not is_integer_in(cost, 0, MOST_COST):
        return False
    places, steps = machines[machine]
    # To Python a step with True in it may equal one of the machine's, so its form comes first.
    if not is_step(step, lanes, letters, places):
        return False
    if word == "put":
        return step not in steps and len(steps) < MOST_STEPS
    return word == "drop" and step in steps


def require_options(program, value):
    """Return value if it is a tuple of options, else raise InvalidOptions with the first wrong one."""
    if not is_tuple_of(value, 1, MOST_OPTIONS):
        raise InvalidOptions(None)
    for index, option in enumerate(value):
        if not is_option(program, option):
            raise InvalidOptions(index)
    return value


def are_options(program, value):
    """Return whether value is a tuple of options for the program."""
    try:
        require_options(program, value)
    except InvalidOptions:
        return False
    return True


def with_choice(program, options, choice):
    """Return the program with the steps that the choice's options add, without those they remove."""
    lanes, letters, machines = program
    changed = [list(steps) for _, steps in machines]
    for at in choice:
        word, machine, step, _ = options[at]
        if word == "put":
            changed[machine].append(step)
        else:
            changed[machine].remove(step)
    pairs = [(machine[0], tuple(sorted(steps))) for machine, steps in zip(machines, changed)]
    return lanes, letters, tuple(pairs)


def cost_of(options, choice):
    """Return the sum of the costs of the choice's options."""
    return sum([options[at][3] for at in choice])


def is_choice(program, options, indices):
    """Return whether the options of these ascending indices can be taken together."""
    if len({options[at][1:3] for at in indices}) < len(indices):
        return False
    _, _, machines = with_choice(program, options, indices)
    return max([len(steps) for _, steps in machines]) <= MOST_STEPS


def all_choices(program, options):
    """Return the list of all choices, in their order."""
    rows = [()]
    for at in range(len(options)):
        rows = rows + [row + (at,) for row in rows]
    found = [(cost_of(options, row), row) for row in rows if is_choice(program, options, row)]
    return [row for _, row in sorted(found)]


def choices_up_to(program, options, most):
    """Return the list of all choices, in their order, that cost at most so much; all for None."""
    found = all_choices(program, options)
    return [choice for choice in found if most is None or cost_of(options, choice) <= most]


def choices(program, options):
    """Yield all choices in their order: by cost, then as tuples."""
    for choice in all_choices(program, options):
        yield choice


def keeps_all(program, wishes, tries):
    """Return whether the program keeps all wishes; none is looked at behind one that is not kept."""
    for wish in wishes:
        if not keeps(program, wish, tries=tries):
            return False
    return True


def cheapest_mend(program, wishes, options, *, tries=400):
    """Return the first choice with which the program keeps all wishes, or None."""
    for choice in choices(program, options):
        if keeps_all(with_choice(program, options, choice), wishes, tries):
            return choice
    return None

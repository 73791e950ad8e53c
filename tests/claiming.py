"""Claims of each kind about some program, and what is so of them."""

from plain import plain_reach
from plain_checker import all_choices_of, changed_by, start_of, wish_is_kept
from trials import some_action, some_lot, some_program, some_situation


def some_shape(random, seed):
    """A program whose lists stay short."""
    lanes, letters = ((1, 2), (1, 3), (2, 1), (1, 2), (1, 1), (2, 2))[seed % 6]
    return some_program(random, lanes, letters, 1 + seed % 2, 3, 6)


def some_options(random, program, many):
    options = []
    while len(options) < many:
        machine = random.randrange(len(program[2]))
        places, steps = program[2][machine]
        step = (random.randrange(places), some_action(random, program[0], program[1]), random.randrange(places))
        if step not in steps and len(steps) < 8 and random.random() < 0.5:
            options.append(("put", machine, step, random.randrange(4)))
        elif random.random() < 0.5:
            options.append(("drop", machine, random.choice(steps), random.randrange(4)))
    return tuple(options)


def some_wishes(random, program):
    return tuple([(random.choice(("never", "can")), some_situation(random, program, 2, 1))
                  for _ in range(random.randint(1, 3))])


def least_mend(program, wishes, options):
    """The least cost of a choice that mends, or None."""
    for cost, choice in all_choices_of(program, options):
        if all(wish_is_kept(changed_by(program, options, choice), wish) for wish in wishes):
            return cost
    return None


def near(random, n, most):
    """A number that is n, or not far from it."""
    if n is None:
        return random.choice((None, None, 0, 1, 2, 5, most))
    return random.choice((n, n, n, max(n - 1, 0), n + 1, None, 0, most))


def some_claim(random, program, kind):
    if kind == "idle":
        machine = random.randrange(len(program[2]))
        return kind, program, machine, random.randrange(len(program[2][machine][1]))
    if kind == "mend":
        wishes, options = some_wishes(random, program), some_options(random, program, random.randint(1, 3))
        return kind, program, wishes, options, near(random, least_mend(program, wishes, options), 300)
    lot = random.choice((start_of(program), some_lot(random, program, 2)))
    situation = some_situation(random, program, 3, 2)
    if kind == "never":
        return kind, program, lot, situation
    return kind, program, lot, situation, near(random, plain_reach(program, lot, situation, 400)[0], 400)

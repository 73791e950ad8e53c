"""The forms of papers: whether any value has the form that is due for a claim and a verdict."""

from losinglanes.forms import is_ascending, is_index, is_tuple_of
from losinglanes.mends import all_choices, choices_up_to, with_choice
from losinglanes.programs import are_words, is_lot
from losinglanes.steps import all_steps

MOST_TRIPLES = 400
MOST_ENTRIES = 401


def is_entry(program, value):
    """Return whether value has the form of a run's entry."""
    if not is_tuple_of(value, 3, 3):
        return False
    lanes, letters, machines = program
    words, machine, index = value
    if not are_words(words, lanes, letters) or not is_index(machine, len(machines)):
        return False
    return is_index(index, len(machines[machine][1]))


def is_run(program, value):
    """Return whether value has the form of a run."""
    return is_tuple_of(value, 0, MOST_ENTRIES) and all([is_entry(program, entry) for entry in value])


def are_targets(value, steps, many):
    """Return whether value has for each of so many steps None or the index of one of so many triples."""
    if not is_tuple_of(value, steps, steps):
        return False
    return all([target is None or is_index(target, many) for target in value])


def is_triple(program, value, ranks, many):
    """Return whether value has the form of one of so many triples of a list with so many ranks."""
    if not is_tuple_of(value, 3, 3):
        return False
    lot, rank, targets = value
    return is_lot(program, lot) and is_index(rank, ranks) and are_targets(targets, len(all_steps(program)), many)


def is_list(program, value, ranks):
    """Return whether value has the form of a list with so many ranks: its bound, or 1 without one."""
    if not is_tuple_of(value, 0, MOST_TRIPLES):
        return False
    if not all([is_triple(program, triple, ranks, len(value)) for triple in value]):
        return False
    return is_ascending([lot for lot, _, _ in value])


def is_part(program, listed, value):
    """Return whether value has the form of a list without a bound, or of a run if none is due."""
    if listed:
        return is_list(program, value, 1)
    return is_run(program, value)


def is_chosen(program, options, value):
    """Return whether value is a choice."""
    # To Python (True,) equals (1,), so that the indices are looked at ahead of the choices.
    if not is_tuple_of(value, 0, len(options)) or not all([is_index(at, len(options)) for at in value]):
        return False
    return value in all_choices(program, options)


def are_grounds(claim, choice, value):
    """Return whether value has for each wish a list or a run in the program that the choice changes."""
    _, program, wishes, options, _ = claim
    if not is_tuple_of(value, len(wishes), len(wishes)):
        return False
    changed = with_choice(program, options, choice)
    return all([is_part(changed, word == "never", part) for (word, _), part in zip(wishes, value)])


def is_break(program, wishes, value):
    """Return whether value has the form of a break in the program that its choice has changed."""
    if not is_tuple_of(value, 2, 2):
        return False
    at, part = value
    return is_index(at, len(wishes)) and is_part(program, wishes[at][0] == "can", part)


def are_breaks(claim, most, value):
    """Return whether value has a break for each choice that costs at most so much; for each for None."""
    _, program, wishes, options, _ = claim
    asked = choices_up_to(program, options, most)
    if not is_tuple_of(value, len(asked), len(asked)):
        return False
    rows = [(with_choice(program, options, choice), part) for choice, part in zip(asked, value)]
    return all([is_break(changed, wishes, part) for changed, part in rows])


def shows_distance(claim, paper):
    """Return whether paper has the form that is due for a distance that is shown."""
    _, program, _, _, n = claim
    if n is None:
        return is_list(program, paper, 1)
    return is_tuple_of(paper, 2, 2) and is_run(program, paper[0]) and is_list(program, paper[1], n)


def breaks_distance(claim, paper):
    """Return whether paper has the form that is due for a distance that is broken."""
    _, program, _, _, n = claim
    if not is_tuple_of(paper, 2, 2):
        return False
    word, part = paper
    if word == "nearer":
        return is_run(program, part)
    return word == "farther" and n is not None and is_list(program, part, n + 1)


def shows_mend(claim, paper):
    """Return whether paper has the form that is due for a mend that is shown."""
    _, program, _, options, n = claim
    if n is None:
        return are_breaks(claim, None, paper)
    if not is_tuple_of(paper, 3, 3):
        return False
    choice, grounds, breaks = paper
    if not is_chosen(program, options, choice) or not are_grounds(claim, choice, grounds):
        return False
    return are_breaks(claim, n - 1, breaks)


def breaks_mend(claim, paper):
    """Return whether paper has the form that is due for a mend that is broken."""
    _, program, _, options, n = claim
    if is_tuple_of(paper, 3, 3):
        word, choice, grounds = paper
        return word == "less" and is_chosen(program, options, choice) and are_grounds(claim, choice, grounds)
    if not is_tuple_of(paper, 2, 2) or n is None:
        return False
    word, breaks = paper
    return word == "more" and are_breaks(claim, n, breaks)


def has_form(verdict, claim, paper):
    """Return whether verdict is one, and paper has the form that is due for it and the claim."""
    shown = verdict == "shown"
    if not shown and verdict != "broken":
        return False
    kind, program = claim[:2]
    if kind == "distance":
        return shows_distance(claim, paper) if shown else breaks_distance(claim, paper)
    if kind == "mend":
        return shows_mend(claim, paper) if shown else breaks_mend(claim, paper)
    return is_part(program, shown, paper)

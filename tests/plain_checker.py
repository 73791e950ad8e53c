"""The forms and the first fault of [13] and [14], as the document words them, without the package.

What is wrong is told by an exception at once, so that the sequence below is that of the document.
"""

from itertools import combinations

from plain import plain_reach, plain_step_back
from trials import after_step, can_become, lies_above, lies_in


class Wrong(Exception):
    def __init__(self, told):
        self.told = told


def need(holds, told):
    if not holds:
        raise Wrong(told)


def whole(value, least, most):
    return type(value) is int and least <= value <= most


def tuples(value, least, most):
    return type(value) is tuple and least <= len(value) <= most


def ascends(values):
    return list(values) == sorted(set(values))


def right_action(value, lanes, letters):
    if not tuples(value, 1, 3) or type(value[0]) is not str:
        return False
    parts = {"send": (lanes, letters), "take": (lanes, letters), "test": (lanes,), "rest": ()}.get(value[0])
    return parts is not None and len(value) == 1 + len(parts) and all(
        whole(part, 0, many - 1) for part, many in zip(value[1:], parts))


def right_step(value, lanes, letters, places):
    return (tuples(value, 3, 3) and whole(value[0], 0, places - 1) and right_action(value[1], lanes, letters)
            and whole(value[2], 0, places - 1))


def right_machine(value, lanes, letters):
    return (tuples(value, 2, 2) and whole(value[0], 1, 5) and tuples(value[1], 0, 8)
            and all(right_step(step, lanes, letters, value[0]) for step in value[1]) and ascends(value[1]))


def right_program(value):
    return (tuples(value, 3, 3) and whole(value[0], 1, 3) and whole(value[1], 1, 3) and tuples(value[2], 1, 3)
            and all(right_machine(machine, value[0], value[1]) for machine in value[2]))


def right_words(program, value):
    return tuples(value, program[0], program[0]) and all(
        tuples(word, 0, 60) and all(whole(letter, 0, program[1] - 1) for letter in word) for word in value)


def right_lot(program, value):
    many = len(program[2])
    return (tuples(value, 2, 2) and tuples(value[0], many, many)
            and all(whole(place, 0, machine[0] - 1) for place, machine in zip(value[0], program[2]))
            and right_words(program, value[1]))


def right_situation(program, value):
    return tuples(value, 1, 3) and all(right_lot(program, lot) for lot in value) and ascends(value)


def right_wish(program, value):
    return tuples(value, 2, 2) and value[0] in ("never", "can") and right_situation(program, value[1])


def right_option(program, value):
    if not tuples(value, 4, 4) or value[0] not in ("put", "drop") or not whole(value[1], 0, len(program[2]) - 1):
        return False
    places, steps = program[2][value[1]]
    if not right_step(value[2], program[0], program[1], places) or not whole(value[3], 0, 99):
        return False
    return value[2] in steps if value[0] == "drop" else value[2] not in steps and len(steps) < 8


def right_n(value, most):
    return value is None or whole(value, 0, most)


def wrong_claim_part(value):
    """The name of the first wrong part of any value as a claim, or None."""
    many = {"never": 4, "distance": 5, "idle": 4, "mend": 5}
    if type(value) is not tuple or not value or type(value[0]) is not str or many.get(value[0]) != len(value):
        return "kind"
    kind, program = value[:2]
    if not right_program(program):
        return "program"
    if kind == "idle":
        if not whole(value[2], 0, len(program[2]) - 1):
            return "machine"
        return None if whole(value[3], 0, len(program[2][value[2]][1]) - 1) else "index"
    if kind == "mend":
        if not tuples(value[2], 1, 3) or not all(right_wish(program, wish) for wish in value[2]):
            return "wishes"
        if not tuples(value[3], 1, 3) or not all(right_option(program, option) for option in value[3]):
            return "options"
        return None if right_n(value[4], 300) else "n"
    if not right_lot(program, value[2]):
        return "lot"
    if not right_situation(program, value[3]):
        return "situation"
    return None if kind == "never" or right_n(value[4], 400) else "n"


def steps_in(program):
    return [(machine, index, step) for machine, (_, steps) in enumerate(program[2]) for index, step in enumerate(steps)]


def check_list_form(program, value, ranks):
    need(tuples(value, 0, 400), ("paper",))
    many = len(steps_in(program))
    for triple in value:
        need(tuples(triple, 3, 3) and right_lot(program, triple[0]), ("paper",))
        need(whole(triple[1], 0, ranks - 1) and tuples(triple[2], many, many), ("paper",))
        need(all(target is None or whole(target, 0, len(value) - 1) for target in triple[2]), ("paper",))
    need(ascends([triple[0] for triple in value]), ("paper",))


def check_run_form(program, value):
    need(tuples(value, 0, 401), ("paper",))
    for entry in value:
        need(tuples(entry, 3, 3) and right_words(program, entry[0]), ("paper",))
        need(whole(entry[1], 0, len(program[2]) - 1), ("paper",))
        need(whole(entry[2], 0, len(program[2][entry[1]][1]) - 1), ("paper",))


def check_list(program, lot, situation, rows, bound=None):
    if bound != 0:
        for other in situation:
            need(any(rank == 0 and lies_above(other, below) for below, rank, _ in rows), ("apart", other))
    for at, (below, rank, targets) in enumerate(rows):
        for (machine, index, step), target in zip(steps_in(program), targets):
            before = plain_step_back(below, machine, step)
            told = ("target", at, machine, index)
            if before is None or bound is not None and rank == bound - 1:
                need(target is None, told)
            else:
                need(target is not None and lies_above(before, rows[target][0]), told)
                need(bound is None or rows[target][1] <= rank + 1, told)
    need(not any(lies_above(lot, below) for below, _, _ in rows), ("begins",))


def check_entries(program, lot, run):
    """The last lot."""
    for k, (words, machine, index) in enumerate(run):
        need(all(map(can_become, lot[1], words)), ("step", k))
        lot = after_step((lot[0], words), machine, program[2][machine][1][index])
        need(lot is not None, ("step", k))
    return lot


def check_run(program, lot, situation, run):
    need(lies_in(check_entries(program, lot, run), situation), ("misses",))


def start_of(program):
    return (0,) * len(program[2]), ((),) * program[0]


def step_situation(program, machine, index):
    start, action, _ = program[2][machine][1][index]
    words = [()] * program[0]
    if action[0] == "take":
        words[action[1]] = (action[2],)
    rows = [()]
    for at, (places, _) in enumerate(program[2]):
        rows = [row + (place,) for row in rows for place in range(places) if at != machine or place == start]
    return tuple((row, tuple(words)) for row in rows)


def changed_by(program, options, choice):
    rows = [set(steps) for _, steps in program[2]]
    for at in choice:
        rows[options[at][1]] ^= {options[at][2]}
    return program[0], program[1], tuple(
        (machine[0], tuple(sorted(row))) for machine, row in zip(program[2], rows))


def all_choices_of(program, options):
    """All choices with their costs, in their order."""
    found = []
    for many in range(len(options) + 1):
        for choice in combinations(range(len(options)), many):
            if len({options[at][1:3] for at in choice}) == many and all(
                    len(steps) <= 8 for _, steps in changed_by(program, options, choice)[2]):
                found.append((sum(options[at][3] for at in choice), choice))
    return sorted(found)


def choice_cost(program, options, value):
    need(tuples(value, 0, 3) and all(type(at) is int for at in value), ("paper",))
    costs = {choice: cost for cost, choice in all_choices_of(program, options)}
    need(value in costs, ("paper",))
    return costs[value]


class Mend:
    """The parts of a claim of "mend", and checks of its papers: their forms first, then the rest."""

    def __init__(self, claim):
        _, self.program, self.wishes, self.options, self.n = claim
        self.later = []

    def is_so(self, changed, situation, listed, part):
        if listed:
            check_list_form(changed, part, 1)
            return lambda: check_list(changed, start_of(changed), situation, part)
        check_run_form(changed, part)
        return lambda: check_run(changed, start_of(changed), situation, part)

    def grounds(self, choice, value):
        changed = changed_by(self.program, self.options, choice)
        need(tuples(value, len(self.wishes), len(self.wishes)), ("paper",))
        for w, ((word, situation), part) in enumerate(zip(self.wishes, value)):
            self.later.append((("ground", w), self.is_so(changed, situation, word == "never", part)))

    def breaks(self, value, asked):
        choices = [choice for cost, choice in all_choices_of(self.program, self.options) if asked(cost)]
        need(tuples(value, len(choices), len(choices)), ("paper",))
        for c, (choice, pair) in enumerate(zip(choices, value)):
            need(tuples(pair, 2, 2) and whole(pair[0], 0, len(self.wishes) - 1), ("paper",))
            word, situation = self.wishes[pair[0]]
            changed = changed_by(self.program, self.options, choice)
            self.later.append((("break", c), self.is_so(changed, situation, word == "can", pair[1])))

    def check(self, verdict, paper):
        cost_is_right = True
        n = self.n
        if verdict == "shown" and n is None:
            self.breaks(paper, lambda cost: True)
        elif verdict == "shown":
            need(tuples(paper, 3, 3), ("paper",))
            cost_is_right = choice_cost(self.program, self.options, paper[0]) == n
            self.grounds(paper[0], paper[1])
            self.breaks(paper[2], lambda cost: cost < n)
        elif tuples(paper, 3, 3) and paper[0] == "less":
            cost = choice_cost(self.program, self.options, paper[1])
            cost_is_right = n is None or cost < n
            self.grounds(paper[1], paper[2])
        else:
            need(tuples(paper, 2, 2) and paper[0] == "more" and n is not None, ("paper",))
            self.breaks(paper[1], lambda cost: cost <= n)
        need(cost_is_right, ("cost",))
        for told, is_so in self.later:
            try:
                is_so()
            except Wrong as wrong:
                raise Wrong(told + (wrong.told,)) from None


def check_distance(verdict, claim, paper):
    _, program, lot, situation, n = claim
    if verdict == "shown" and n is None:
        check_list_form(program, paper, 1)
        check_list(program, lot, situation, paper)
        return
    need(tuples(paper, 2, 2), ("paper",))
    if verdict == "shown":
        check_run_form(program, paper[0])
        check_list_form(program, paper[1], n)
        need(len(paper[0]) == n, ("long",))
        check_run(program, lot, situation, paper[0])
        check_list(program, lot, situation, paper[1], n)
    elif paper[0] == "nearer":
        check_run_form(program, paper[1])
        need(n is None or len(paper[1]) < n, ("long",))
        check_run(program, lot, situation, paper[1])
    else:
        need(paper[0] == "farther" and n is not None, ("paper",))
        check_list_form(program, paper[1], n + 1)
        check_list(program, lot, situation, paper[1], n + 1)


def check_paper(verdict, claim, paper):
    need(verdict in ("shown", "broken"), ("paper",))
    kind, program = claim[:2]
    if kind == "distance":
        check_distance(verdict, claim, paper)
    elif kind == "mend":
        Mend(claim).check(verdict, paper)
    elif verdict == "shown":
        check_list_form(program, paper, 1)
        lot, situation = claim[2:] if kind == "never" else (start_of(program), step_situation(*claim[1:]))
        check_list(program, lot, situation, paper)
    else:
        check_run_form(program, paper)
        if kind == "never":
            check_run(program, claim[2], claim[3], paper)
        else:
            check_entries(program, start_of(program), paper)
            need(paper and paper[-1][1:] == claim[2:], ("last",))


def plain_fault(certificate):
    """The same as first_fault."""
    try:
        need(tuples(certificate, 3, 3), ("form",))
        need(wrong_claim_part(certificate[1]) is None, ("claim",))
        check_paper(*certificate)
    except Wrong as wrong:
        return wrong.told
    return None


def wish_is_kept(program, wish):
    steps, _ = plain_reach(program, start_of(program), wish[1], 400)
    return (steps is not None) == (wish[0] == "can")


def is_so(claim):
    """Whether a claim is so; its layers have at most 400 lots."""
    kind, program = claim[:2]
    if kind == "never":
        return plain_reach(*claim[1:], 400)[0] is None
    if kind == "distance":
        return plain_reach(*claim[1:4], 400)[0] == claim[4]
    if kind == "idle":
        return plain_reach(program, start_of(program), step_situation(*claim[1:]), 400)[0] is None
    for cost, choice in all_choices_of(program, claim[3]):
        changed = changed_by(program, claim[3], choice)
        if all(wish_is_kept(changed, wish) for wish in claim[2]):
            return cost == claim[4]
    return claim[4] is None

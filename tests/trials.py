"""What steps and runs lead to, by trying each loss and each step, without the package's functions."""

from functools import lru_cache
from itertools import combinations, product
from random import Random


def all_words(letters, longest):
    return [word for many in range(longest + 1) for word in product(range(letters), repeat=many)]


def all_lots(program, longest):
    """All lots of the program with words of at most so many letters, in ascending order."""
    lanes, letters, machines = program
    places = list(product(*[range(machine[0]) for machine in machines]))
    return sorted(product(places, product(all_words(letters, longest), repeat=lanes)))


@lru_cache(maxsize=None)
def words_left(word):
    """All that a word can become by losing letters and by letters that become smaller."""
    left = set()
    for many in range(len(word) + 1):
        for kept in combinations(word, many):
            left.update(product(*[range(letter + 1) for letter in kept]))
    return left


def can_become(word, other):
    """The same as other in words_left(word), also for long words."""
    letters = iter(word)
    return all(any(letter <= own for own in letters) for letter in other)


def lies_above(lot, other):
    return lot[0] == other[0] and all(map(can_become, lot[1], other[1]))


def lies_in(lot, situation):
    return any(lies_above(lot, other) for other in situation)


def after_step(lot, machine, step):
    """The lot after the step, without losing, or None."""
    places, words = list(lot[0]), list(lot[1])
    start, action, end = step
    if places[machine] != start:
        return None
    places[machine] = end
    if action[0] == "send":
        words[action[1]] += (action[2],)
    elif action[0] == "take":
        if not words[action[1]] or words[action[1]][0] != action[2]:
            return None
        words[action[1]] = words[action[1]][1:]
    elif action[0] == "test" and words[action[1]]:
        return None
    return tuple(places), tuple(words)


def entries_of(program, lot):
    """All entries that can be done in the lot, each with the lot after it."""
    pairs = []
    for words in product(*[sorted(words_left(word)) for word in lot[1]]):
        for machine, (_, steps) in enumerate(program[2]):
            for index, step in enumerate(steps):
                after = after_step((lot[0], words), machine, step)
                if after is not None:
                    pairs.append(((words, machine, index), after))
    return pairs


def lots_that_lead(program, situation, most, longest):
    """For k from 0 to most the lots, with words of at most longest letters, that lead in by k entries."""
    rows = []
    # An entry makes a word longer by one letter at most, so the first ones need the longest words.
    leading = {lot for lot in all_lots(program, longest + most) if lies_in(lot, situation)}
    for k in range(most + 1):
        rows.append({lot for lot in leading if max(map(len, lot[1])) <= longest})
        following = set(leading)
        for lot in all_lots(program, longest + most - k - 1) if k < most else ():
            if lot not in leading and any(after in leading for _, after in entries_of(program, lot)):
                following.add(lot)
        leading = {lot for lot in following if max(map(len, lot[1])) <= longest + most - k - 1}
    return rows


def lots_led_to(program, lot, most, longest):
    """For k from 0 to most the lots that exactly k entries lead to, words cut to longest letters.

    What a longer word leads to is left out: so these are all lots only if no word gets that long.
    """
    rows = [{lot}]
    for _ in range(most):
        rows.append({after for before in rows[-1] for _, after in entries_of(program, before)
                     if max(map(len, after[1])) <= longest})
    return rows


def all_led_to(program, lot, longest):
    """All lots that runs lead to, words cut to longest letters; so there may be more."""
    found, behind = {lot}, [lot]
    while behind:
        for _, after in entries_of(program, behind.pop()):
            if after not in found and max(map(len, after[1])) <= longest:
                found.add(after)
                behind.append(after)
    return found


def some_action(random, lanes, letters):
    name = random.choice(("send", "take", "send", "take", "test", "rest"))
    if name == "rest":
        return ("rest",)
    if name == "test":
        return ("test", random.randrange(lanes))
    return (name, random.randrange(lanes), random.randrange(letters))


def some_program(random, lanes, letters, machines, places, steps):
    """A program with as many lanes, letters and machines, and at most as many places and steps."""
    rows = []
    for _ in range(machines):
        many = random.randint(1, places)
        found = {(random.randrange(many), some_action(random, lanes, letters), random.randrange(many))
                 for _ in range(random.randint(1, steps))}
        rows.append((many, tuple(sorted(found))))
    return lanes, letters, tuple(rows)


def some_lot(random, program, longest):
    """A lot with words of at most so many letters."""
    lanes, letters, machines = program
    places = tuple(random.randrange(machine[0]) for machine in machines)
    words = tuple(tuple(random.randrange(letters) for _ in range(random.randint(0, longest)))
                  for _ in range(lanes))
    return places, words


def some_situation(random, program, lots, longest):
    """A set of at most so many lots with words of at most so many letters."""
    many = random.randint(1, lots)
    return tuple(sorted({some_lot(random, program, longest) for _ in range(many)}))


def seeded(seed):
    """The same choices in each run of the tests."""
    return Random(seed)


EXAMPLE = (1, 2, ((1, ((0, ("send", 0, 0), 0),)), (2, ((0, ("take", 0, 0), 1),))))

# Each kind of step, from a place to another one and to the same one, by one machine and by two.
MIXED = (1, 2, ((2, (
    (0, ("rest",), 1), (0, ("send", 0, 0), 1), (0, ("send", 0, 1), 0), (0, ("take", 0, 1), 1),
    (1, ("rest",), 1), (1, ("send", 0, 1), 0), (1, ("take", 0, 0), 1), (1, ("test", 0), 0))),))
TWO = (2, 1, (
    (2, ((0, ("send", 0, 0), 1), (0, ("test", 1), 0), (1, ("take", 1, 0), 0))),
    (2, ((0, ("take", 0, 0), 1), (1, ("send", 1, 0), 0), (1, ("test", 0), 1)))))
# A letter arrives that is smaller than each one that was sent.
THREE = (1, 3, ((2, (
    (0, ("send", 0, 2), 1), (0, ("take", 0, 1), 1), (1, ("send", 0, 1), 0), (1, ("take", 0, 0), 0),
    (1, ("test", 0), 1))),))

# (program, most letters of a word, lots that are tried as those that are led to)
PROGRAMS = [(EXAMPLE, 3), (MIXED, 3), (TWO, 2), (THREE, 2)]
for seed in range(48):
    lanes, letters, longest = ((1, 2, 3), (1, 3, 2), (2, 1, 3), (1, 2, 3), (1, 1, 3), (2, 2, 2))[seed % 6]
    PROGRAMS.append((some_program(seeded(seed), lanes, letters, 1 + seed % 2, 2, 6), longest))

"""What steps and runs lead to, by trying each loss and each step, without the package's functions."""

from functools import lru_cache
from itertools import combinations, product
from random import Random


def all_words(letters, longest):
    return [word for many in range(longest + 1) for word in product(range(letters), repeat=many)]


def all_lots(program, longest):
    """All lots of the program with words of at most so many letters, in ascending order."""
    lanes, letters, machines = program
    places = list(product(*[range(machine[0]) for machine in machines]))
    return sorted(product(places, product(all_words(letters, longest), repeat=lanes)))


@lru_cache(maxsize=None)
def words_left(word):
    """All that a word can become by losing letters and by letters that become smaller."""
    left = set()
    for many in range(len(word) + 1):
        for kept in combinations(word, many):
            left.update(product(*[range(letter + 1) for letter in kept]))
    return left


def can_become(word, other):
    """The same as other in words_left(word), also for long words."""
    letters = iter(word)
    return all(any(letter <= own for own in letters) for letter in other)


def lies_above(lot, other):
    return lot[0] == other[0] and all(map(can_become, lot[1], other[1]))


def lies_in(lot, situation):
    return any(lies_above(lot, other) for other in situation)


def after_step(lot, machine, step):
    """The lot after the step, without losing, or None."""
    places, words = list(lot[0]), list(lot[1])
    start, action, end = step
    if places[machine] != start:
        return None
    places[machine] = end
    if action[0] == "send":
        words[action[1]] += (action[2],)
    elif action[0] == "take":
        if not words[action[1]] or words[action[1]][0] != action[2]:
            return None
        words[action[1]] = words[action[1]][1:]
    elif action[0] == "test" and words[action[1]]:
        return None
    return tuple(places), tuple(words)


def entries_of(program, lot):
    """All entries that can be done in the lot, each with the lot after it."""
    pairs = []
    for words in product(*[sorted(words_left(word)) for word in lot[1]]):
        for machine, (_, steps) in enumerate(program[2]):
            for index, step in enumerate(steps):
                after = after_step((lot[0], words), machine, step)
                if after is not None:
                    pairs.append(((words, machine, index), after))
    return pairs


def lots_that_lead(program, situation, most, longest):
    """For k from 0 to most the lots, with words of at most longest letters, that lead in by k entries."""
    rows = []
    # An entry makes a word longer by one letter at most, so the first ones need the longest words.
    leading = {lot for lot in all_lots(program, longest + most) if lies_in(lot, situation)}
    for k in range(most + 1):
        rows.append({lot for lot in leading if max(map(len, lot[1])) <= longest})
        following = set(leading)
        for lot in all_lots(program, longest + most - k - 1) if k < most else ():
            if lot not in leading and any(after in leading for _, after in entries_of(program, lot)):
                following.add(lot)
        leading = {lot for lot in following if max(map(len, lot[1])) <= longest + most - k - 1}
    return rows


def some_action(random, lanes, letters):
    name = random.choice(("send", "take", "send", "take", "test", "rest"))
    if name == "rest":
        return ("rest",)
    if name == "test":
        return ("test", random.randrange(lanes))
    return (name, random.randrange(lanes), random.randrange(letters))


def some_program(random, lanes, letters, machines, places, steps):
    """A program with as many lanes, letters and machines, and at most as many places and steps."""
    rows = []
    for _ in range(machines):
        many = random.randint(1, places)
        found = {(random.randrange(many), some_action(random, lanes, letters), random.randrange(many))
                 for _ in range(random.randint(1, steps))}
        rows.append((many, tuple(sorted(found))))
    return lanes, letters, tuple(rows)


def some_situation(random, program, lots, longest):
    """A set of at most so many lots with words of at most so many letters."""
    lanes, letters, machines = program
    found = set()
    for _ in range(random.randint(1, lots)):
        places = tuple(random.randrange(machine[0]) for machine in machines)
        words = tuple(tuple(random.randrange(letters) for _ in range(random.randint(0, longest)))
                      for _ in range(lanes))
        found.add((places, words))
    return tuple(sorted(found))


def seeded(seed):
    """The same choices in each run of the tests."""
    return Random(seed)

"""Programs, lots and situations: whether any value is one."""

from losinglanes.errors import InvalidLot, InvalidProgram, InvalidSituation
from losinglanes.forms import is_ascending, is_index, is_integer_in, is_tuple_of

MOST_LANES = 3
MOST_LETTERS = 3
MOST_MACHINES = 3
MOST_PLACES = 5
MOST_STEPS = 8
MOST_LOTS = 3
LONGEST_WORD = 60


def is_action(value, lanes, letters):
    """Return whether value is an action for so many lanes and letters."""
    if not is_tuple_of(value, 1, 3):
        return False
    name = value[0]
    if name == "rest":
        return len(value) == 1
    if name == "test":
        return len(value) == 2 and is_index(value[1], lanes)
    if name in ("send", "take"):
        return len(value) == 3 and is_index(value[1], lanes) and is_index(value[2], letters)
    return False


def is_step(value, lanes, letters, places):
    """Return whether value is a step of a machine with so many places."""
    if not is_tuple_of(value, 3, 3):
        return False
    start, action, end = value
    return is_index(start, places) and is_action(action, lanes, letters) and is_index(end, places)


def are_steps(value, lanes, letters, places):
    """Return whether value is a set of steps that such a machine may have."""
    if not is_tuple_of(value, 0, MOST_STEPS):
        return False
    # Python can compare the steps only after each is known to be one.
    return all([is_step(step, lanes, letters, places) for step in value]) and is_ascending(value)


def has_places(value):
    """Return whether value is a pair that begins with a number of places."""
    return is_tuple_of(value, 2, 2) and is_integer_in(value[0], 1, MOST_PLACES)


def require_program(value):
    """Return value if it is a program, else raise InvalidProgram with its first wrong part."""
    if not is_tuple_of(value, 3, 3):
        raise InvalidProgram(None)
    lanes, letters, machines = value
    if not is_integer_in(lanes, 1, MOST_LANES):
        raise InvalidProgram("lanes")
    if not is_integer_in(letters, 1, MOST_LETTERS):
        raise InvalidProgram("letters")
    if not is_tuple_of(machines, 1, MOST_MACHINES):
        raise InvalidProgram("machines")
    for index, machine in enumerate(machines):
        if not has_places(machine):
            raise InvalidProgram(("places", index))
        places, steps = machine
        if not are_steps(steps, lanes, letters, places):
            raise InvalidProgram(("steps", index))
    return value


def is_program(value):
    """Return whether value is a program."""
    try:
        require_program(value)
    except InvalidProgram:
        return False
    return True


def first_lot(program):
    """Return the lot with all machines in place 0 and all words empty."""
    lanes, _, machines = program
    return (0,) * len(machines), ((),) * lanes


def is_word(value, letters):
    """Return whether value is a word, not too long, of so many letters."""
    return is_tuple_of(value, 0, LONGEST_WORD) and all([is_index(letter, letters) for letter in value])


def are_places(value, machines):
    """Return whether value has a place for each of the machines."""
    if not is_tuple_of(value, len(machines), len(machines)):
        return False
    return all([is_index(place, machine[0]) for place, machine in zip(value, machines)])


def are_words(value, lanes, letters):
    """Return whether value has a word for each of so many lanes."""
    return is_tuple_of(value, lanes, lanes) and all([is_word(word, letters) for word in value])


def is_lot(program, value):
    """Return whether value is a lot of the program with words that are not too long."""
    if not is_tuple_of(value, 2, 2):
        return False
    lanes, letters, machines = program
    places, words = value
    return are_places(places, machines) and are_words(words, lanes, letters)


def require_lot(program, value):
    """Return value if it is a lot of the program, else raise InvalidLot."""
    if not is_lot(program, value):
        raise InvalidLot()
    return value


def require_situation(program, value):
    """Return value if it is a situation, else raise InvalidSituation with its first wrong lot."""
    if not is_tuple_of(value, 1, MOST_LOTS):
        raise InvalidSituation(None)
    for index, lot in enumerate(value):
        if not is_lot(program, lot):
            raise InvalidSituation(index)
        if index > 0 and not value[index - 1] < lot:
            raise InvalidSituation(index)
    return value


def is_situation(program, value):
    """Return whether value is a situation of the program."""
    try:
        require_situation(program, value)
    except InvalidSituation:
        return False
    return True

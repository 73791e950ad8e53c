"""One step back: the least lots from which a step leads to a lot above a given one."""

from losinglanes.steps import all_steps, exchanged, step_at


def can_end(words, action):
    """Return whether the action can lead to words that these ones are within."""
    # A lane that was tested is empty, and no step but a send makes it longer.
    return action[0] != "test" or words[action[1]] == ()


def words_before(words, action):
    """Return the least words from which the action leads to words that these are within."""
    if action[0] == "take":
        _, lane, letter = action
        return exchanged(words, lane, (letter,) + words[lane])
    if action[0] == "send":
        _, lane, letter = action
        word = words[lane]
        # A letter that is sent may be lost at once: it need not be the lane's last one.
        if len(word) > 0 and word[-1] <= letter:
            return exchanged(words, lane, word[:-1])
    return words


def back(program, lot, machine, index):
    """Return the lot one step back from the lot by the machine's step, or None."""
    places, words = lot
    start, action, end = step_at(program, machine, index)
    if places[machine] != end or not can_end(words, action):
        return None
    return exchanged(places, machine, start), words_before(words, action)


def all_back(program, lot):
    """Return the set of all lots one step back from the lot."""
    found = [back(program, lot, machine, index) for machine, index in all_steps(program)]
    return tuple(sorted({other for other in found if other is not None}))

"""Words and rows of words: which are within which."""


def place_in(word, other):
    """Return the first positions in other at which the letters of word are found, or None."""
    positions = []
    at = 0
    for letter in word:
        while at < len(other) and other[at] < letter:
            at += 1
        if at == len(other):
            return None
        positions.append(at)
        at += 1
    return tuple(positions)


def is_within(word, other):
    """Return whether the word is within the other one."""
    return place_in(word, other) is not None


def are_within(words, others):
    """Return whether each word is within the one at the same place in others."""
    return all([is_within(word, other) for word, other in zip(words, others)])

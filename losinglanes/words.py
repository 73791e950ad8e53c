"""Words and rows of words: which are within which."""


def place_in(word, other):
    """Return the first positions in other at which the letters of word are found, or None."""
    positions = []
    at = 0
    # The last position for a letter is the one that leaves enough of them for the rest of word.
    last = len(other) - len(word)
    for letter in word:
        while at <= last and other[at] < letter:
            at += 1
        if at > last:
            return None
        positions.append(at)
        at += 1
        last += 1
    return tuple(positions)


def is_within(word, other):
    """Return whether the word is within the other one."""
    return place_in(word, other) is not None


def are_within(words, others):
    """Return whether each word is within the one at the same place in others."""
    for word, other in zip(words, others):
        if not is_within(word, other):
            return False
    return True

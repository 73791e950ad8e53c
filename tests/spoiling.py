"""Ways to spoil a value: parts exchanged, left out, turned round, put in, made greater or less."""

from samples import part_at, with_part


def inner_paths(value, path=()):
    """The paths of all parts of nested tuples, but none of those within words."""
    paths = [path]
    if type(value) is tuple:
        for index, part in enumerate(value):
            paths.extend(inner_paths(part, path + (index,)))
    return paths


def other_numbers(part):
    return [part + 1, part - 1, -part, part + 400, 10 ** 30, None, bool(part), str(part), (part,), [part]]


def other_tuples(random, part):
    found = [list(part), part + part, part[::-1], part[1:], part[:-1], (), part + (None,), (part,), None]
    if part:
        at = random.randrange(len(part))
        found.extend([part[:at] + part[at + 1:], part[:at] + part[at:at + 1] + part[at:], part[0],
                      part[at:] + part[:at], part[:at] + (random.choice(part),) + part[at:]])
        if len(part) > 1:
            found.append(part[:at - 1] + part[at:at + 1] + part[at - 1:at] + part[at + 1:] if at else part[1:] + part[:1])
    return found


def other_words(part):
    return [word for word in ("shown", "broken", "never", "can", "distance", "idle", "mend", "nearer", "farther",
                              "less", "more", "put", "drop", "send", "take", "test", "rest")
            if word != part] + [part + " ", part.upper(), "", None, 0]


def spoil(random, value):
    """The value with one part changed; it may be right all the same."""
    paths = inner_paths(value)
    path = random.choice(paths)
    part = part_at(value, path)
    if random.random() < 0.2:
        return with_part(value, path, part_at(value, random.choice(paths)))
    if type(part) is tuple:
        return with_part(value, path, random.choice(other_tuples(random, part)))
    if type(part) is str:
        return with_part(value, path, random.choice(other_words(part)))
    if part is None:
        return with_part(value, path, random.choice((0, 1, 2, True, False, (), "")))
    if type(part) is int:
        return with_part(value, path, random.choice(other_numbers(part)))
    return with_part(value, path, random.choice((0, (), None)))

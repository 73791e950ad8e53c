"""Values that several test files use, and ways to spoil them in just one part."""


def nested(depth, wrap):
    """Return 0 wrapped so many times."""
    value = 0
    for _ in range(depth):
        value = wrap(value)
    return value


# No program, lot or situation has one of these anywhere, and none is one of these.
OTHER_KINDS = (
    None,
    "",
    "abc",
    [],
    [0, 1, 2],
    {},
    {0: 1, 1: 1, 2: ((1, ()),)},
    -1,
    10 ** 40,
    -10 ** 40,
    nested(30, lambda value: (value, 0, 0, 0)),
    nested(30, lambda value: ({}, [], "", value)),
    nested(30, lambda value: [value]),
    nested(30, lambda value: {"a": value}),
    (0,) * 1000000,
    [()] * 1000000,
)


def paths_of(value, path=()):
    """Return the paths of all parts of nested tuples, value itself first, in their order."""
    paths = [path]
    if isinstance(value, tuple):
        for index, part in enumerate(value):
            paths.extend(paths_of(part, path + (index,)))
    return paths


def part_at(value, path):
    for index in path:
        value = value[index]
    return value


def with_part(value, path, part):
    """Return nested tuples in which the part at the path is another one."""
    if not path:
        return part
    index = path[0]
    return value[:index] + (with_part(value[index], path[1:], part),) + value[index + 1:]


def spoiled_parts(part):
    """Return what is wrong wherever part is right, what looks most like it first."""
    spoiled = []
    if isinstance(part, tuple):
        spoiled.extend([list(part), dict(enumerate(part)), part + part + part + ("",)])
    elif isinstance(part, int):
        # To Python True is 1: where 0 or 1 is right, a boolean still is wrong.
        spoiled.extend([True, False, str(part), (part,), [part]])
    else:
        spoiled.extend([part.upper(), part + " ", part[:-1], (part,), True, False, 0, 1])
    return spoiled + list(OTHER_KINDS)

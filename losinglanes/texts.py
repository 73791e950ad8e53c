"""Texts: programs as lines, and back."""

from losinglanes.errors import ParseError
from losinglanes.programs import MOST_LANES, MOST_LETTERS, MOST_MACHINES, MOST_PLACES, MOST_STEPS


def action_line(action):
    """Return the parts of an action as they stand in a line."""
    return " ".join([str(part) for part in action])


def machine_lines(machine):
    """Return the lines of a machine and its steps."""
    places, steps = machine
    lines = [f"machine {places}"]
    for start, action, end in steps:
        lines.append(f"{start} {action_line(action)} to {end}")
    return lines


def format_program(program):
    """Return the text of the program."""
    lanes, letters, machines = program
    lines = [f"lanes {lanes}", f"letters {letters}"]
    for machine in machines:
        lines.extend(machine_lines(machine))
    return "".join([line + "\n" for line in lines])


def number_of(part, least, most):
    """Return the integer from least to most that the part of a line is, or None."""
    for number in range(least, most + 1):
        if part == str(number):
            return number
    return None


def number_behind(line, word, most):
    """Return the integer from 1 to most behind the word in a line of these two parts, or None."""
    parts = line.split(" ")
    if len(parts) != 2 or parts[0] != word:
        return None
    return number_of(parts[1], 1, most)


def action_of(parts, lanes, letters):
    """Return the action that the parts of a line are, or None."""
    name, rest = parts[0], parts[1:]
    if name == "rest" and len(rest) == 0:
        return ("rest",)
    if name == "test" and len(rest) == 1:
        found = (name, number_of(rest[0], 0, lanes - 1))
    elif (name == "send" or name == "take") and len(rest) == 2:
        found = (name, number_of(rest[0], 0, lanes - 1), number_of(rest[1], 0, letters - 1))
    else:
        return None
    return None if None in found else found


def step_of(line, lanes, letters, places):
    """Return the step of a machine with so many places that the line is, or None."""
    parts = line.split(" ")
    if len(parts) < 4 or parts[-2] != "to":
        return None
    step = (number_of(parts[0], 0, places - 1), action_of(parts[1:-2], lanes, letters),
            number_of(parts[-1], 0, places - 1))
    return None if None in step else step


class Reader:
    """What the lines read so far tell of a program; it takes on no line that cannot stand behind them."""

    def __init__(self):
        self.lanes = None
        self.letters = None
        self.machines = []

    def takes_on(self, line):
        """Take the line on and return True, or return False if no program's text goes on with it."""
        if self.lanes is None:
            self.lanes = number_behind(line, "lanes", MOST_LANES)
            return self.lanes is not None
        if self.letters is None:
            self.letters = number_behind(line, "letters", MOST_LETTERS)
            return self.letters is not None
        return self._takes_on_machine(line) or self._takes_on_step(line)

    def _takes_on_machine(self, line):
        """Take the line on as the first one of a machine, or return False."""
        places = number_behind(line, "machine", MOST_PLACES)
        if places is None or len(self.machines) == MOST_MACHINES:
            return False
        self.machines.append((places, []))
        return True

    def _takes_on_step(self, line):
        """Take the line on as the next step of the last machine, or return False."""
        if len(self.machines) == 0:
            return False
        places, steps = self.machines[-1]
        step = step_of(line, self.lanes, self.letters, places)
        if step is None or len(steps) == MOST_STEPS:
            return False
        if len(steps) > 0 and not steps[-1] < step:
            return False
        steps.append(step)
        return True

    def program(self):
        """Return the program that the lines are, which tell of a machine at least."""
        machines = [(places, tuple(steps)) for places, steps in self.machines]
        return self.lanes, self.letters, tuple(machines)


def parse_program(text):
    """Return the program that the text is, or raise ParseError with its first wrong line."""
    parts = text.split("\n")
    lines, behind = parts[:-1], parts[-1]
    reader = Reader()
    for index, line in enumerate(lines):
        if not reader.takes_on(line):
            raise ParseError(index)
    # All lines could begin a text, so what is wrong is that it ends too early or goes on.
    if behind != "" or len(reader.machines) == 0:
        raise ParseError(len(lines))
    return reader.program()

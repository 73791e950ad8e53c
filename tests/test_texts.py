import unittest

from calls import Calls
from losinglanes import texts
from losinglanes.errors import ParseError
from losinglanes.programs import require_program
from losinglanes.texts import format_program, parse_program
from trials import PROGRAMS, seeded, some_program

EXAMPLE = (1, 2, ((2, ((0, ("send", 0, 1), 1), (1, ("rest",), 0))),))
TEXT = "lanes 1\nletters 2\nmachine 2\n0 send 0 1 to 1\n1 rest to 0\n"


def all_step_lines(lanes, letters, places):
    """The lines of all steps of such a machine, in their order: so each may follow those before it."""
    rows = []
    for start in range(places):
        actions = ["rest"]
        actions.extend(f"{word} {lane} {letter}" for word in ("send", "take")
                       for lane in range(lanes) for letter in range(letters))
        actions.extend(f"test {lane}" for lane in range(lanes))
        rows.extend(f"{start} {action} to {end}" for action in actions for end in range(places))
    return rows


class Texts(Calls):
    def refused(self, text, line):
        self.raises(ParseError, {"line": line}, parse_program, text)

    def same(self, program, text):
        self.gives(text, format_program, program)
        self.gives(program, parse_program, text)

    def test_functions_stand_in_their_file(self):
        self.stands_in(texts, format_program, "(program)")
        self.stands_in(texts, parse_program, "(text)")
        self.assertEqual(parse_program(text=format_program(program=EXAMPLE)), EXAMPLE)

    def test_example_of_the_interface(self):
        self.same(EXAMPLE, TEXT)
        self.assertEqual(parse_program(TEXT)[2], ((2, ((0, ("send", 0, 1), 1), (1, ("rest",), 0))),))

    def test_examples_of_the_document(self):
        steps = ((0, ("rest",), 1), (0, ("send", 1, 0), 2), (1, ("take", 0, 1), 0), (2, ("test", 1), 0))
        self.same((2, 2, ((3, steps),)), "lanes 2\nletters 2\nmachine 3\n0 rest to 1\n0 send 1 0 to 2\n"
                  "1 take 0 1 to 0\n2 test 1 to 0\n")

    def test_numbers_of_lanes_letters_machines_and_places(self):
        for lanes in (1, 2, 3):
            for letters in (1, 2, 3):
                for machines in (1, 2, 3):
                    for places in range(1, 6):
                        program = (lanes, letters, ((places, ()),) * machines)
                        self.same(program, f"lanes {lanes}\nletters {letters}\n" + f"machine {places}\n" * machines)

    def test_each_step(self):
        for lanes, letters, places in ((1, 1, 1), (1, 2, 2), (2, 3, 3), (3, 3, 5)):
            head = f"lanes {lanes}\nletters {letters}\nmachine {places}\n"
            for line in all_step_lines(lanes, letters, places):
                start, word, *numbers = line.split(" ")
                action = (word,) + tuple(map(int, numbers[:-2]))
                step = (int(start), action, int(numbers[-1]))
                self.same((lanes, letters, ((places, (step,)),)), head + line + "\n")

    def test_several_machines_with_eight_steps(self):
        for seed in range(60):
            program = some_program(seeded(seed + 3), 1 + seed % 3, 1 + seed % 2, 1 + seed % 3, 5, 12)
            program = program[:2] + (tuple([(places, steps[:8]) for places, steps in program[2]]),)
            self.assertEqual(parse_program(format_program(program)), program)
            require_program(parse_program(format_program(program)))
            self.plain(parse_program(format_program(program)))
        for program, _ in PROGRAMS:
            self.assertEqual(parse_program(format_program(program)), program)

    def test_empty_text(self):
        self.refused("", 0)
        self.refused("\n", 0)
        self.refused("lanes 1", 0)
        self.refused(" ", 0)

    def test_lines_without_a_line_end_at_the_end(self):
        lines = TEXT.split("\n")[:-1]
        for many in range(1, len(lines) + 1):
            text = "\n".join(lines[:many])
            self.refused(text, many - 1)

    def test_texts_that_end_too_early(self):
        self.refused("lanes 1\n", 1)
        self.refused("lanes 1\nletters 2\n", 2)
        for many in (3, 4, 5):
            text = "".join(TEXT.splitlines(keepends=True)[:many])
            self.gives((1, 2, ((2, EXAMPLE[2][0][1][:many - 3]),)), parse_program, text)

    def test_something_behind_the_last_line_end(self):
        for more in ("1 rest to 1", "machine 1", " ", "x", "0", "lanes 1", "\r", "\t"):
            self.refused(TEXT + more, 5)
            self.refused("lanes 1\n" + more, 1)
            self.refused("lanes 1\nletters 2\n" + more, 2)
        self.refused(TEXT + "\n", 5)
        self.refused(TEXT + " \n", 5)
        self.refused("lanes 1\nletters 2\nx\n" + "y", 2)

    def test_lines_left_out(self):
        lines = TEXT.splitlines(keepends=True)
        for at, line in ((0, 0), (1, 1), (2, 2)):
            self.refused("".join(lines[:at] + lines[at + 1:]), line)
        for at in (3, 4):
            parse_program("".join(lines[:at] + lines[at + 1:]))

    def test_lines_doubled(self):
        lines = TEXT.splitlines(keepends=True)
        for at in range(5):
            doubled = "".join(lines[:at + 1] + lines[at:])
            if at == 2:
                self.gives((1, 2, ((2, ()),) + EXAMPLE[2]), parse_program, doubled)
            else:
                self.refused(doubled, at + 1)

    def test_lines_exchanged(self):
        lines = TEXT.splitlines(keepends=True)
        for at in range(5):
            for other in range(at + 1, 5):
                rows = list(lines)
                rows[at], rows[other] = rows[other], rows[at]
                # Only the last step is wrong where it stands, for it is less than the one ahead of it.
                self.refused("".join(rows), 4 if (at, other) == (3, 4) else at)

    def test_steps_out_of_sequence(self):
        head = "lanes 2\nletters 2\nmachine 2\n"
        lines = all_step_lines(2, 2, 2)
        for at, line in enumerate(lines):
            for other, after in enumerate(lines):
                text = f"{head}{line}\n{after}\n"
                if at < other:
                    self.assertEqual(len(parse_program(text)[2][0][1]), 2)
                else:
                    with self.assertRaises(ParseError) as caught:
                        parse_program(text)
                    self.assertEqual(caught.exception.line, 4)
        # Another machine begins anew.
        self.gives((2, 2, ((2, ((1, ("rest",), 0),)), (1, ((0, ("rest",), 0),)))), parse_program,
                   head + "1 rest to 0\nmachine 1\n0 rest to 0\n")

    def test_nine_steps(self):
        head, lines = "lanes 2\nletters 2\nmachine 2\n", [line + "\n" for line in all_step_lines(2, 2, 2)]
        self.assertEqual(len(parse_program(head + "".join(lines[:8]))[2][0][1]), 8)
        self.refused(head + "".join(lines[:9]), 11)
        self.refused(head + "".join(lines[:10]), 11)
        self.refused(head + "".join(lines[:8]) + "machine 2\n" + "".join(lines[:9]), 20)
        self.refused(head + "".join(lines[:8]) + "x\n", 11)

    def test_too_many_machines(self):
        head = "lanes 1\nletters 1\n"
        self.assertEqual(len(parse_program(head + "machine 1\n" * 3)[2]), 3)
        self.refused(head + "machine 1\n" * 4, 5)
        self.refused(head + "machine 1\n0 rest to 0\n" * 4, 8)
        self.refused(head + "machine 1\n" * 3 + "0 rest to 0\nmachine 1\n", 6)

    def test_numbers_beyond_the_programs(self):
        for word, most, head in (("lanes", 3, ""), ("letters", 3, "lanes 1\n"), ("machine", 5, "lanes 1\nletters 1\n")):
            for number in range(most + 3):
                if not 1 <= number <= most:
                    self.refused(f"{head}{word} {number}\nletters 1\n", head.count("\n"))
        head = "lanes 2\nletters 1\nmachine 3\n"
        for line in ("3 rest to 0", "0 rest to 3", "0 send 2 0 to 0", "0 send 0 1 to 0", "0 take 2 0 to 0",
                     "0 take 1 1 to 0", "0 test 2 to 0", "5 rest to 0", "0 rest to 10", "-1 rest to 0",
                     "0 send 0 -1 to 0", "0 test 9999999999999999999999 to 0"):
            self.refused(f"{head}{line}\n", 3)
        for line in ("2 rest to 0", "0 rest to 2", "0 send 1 0 to 0", "0 take 1 0 to 2", "0 test 1 to 0"):
            parse_program(f"{head}{line}\n")

    def spoiled_lines(self, line):
        """The line in ways in which no line is written."""
        parts = line.split(" ")
        rows = [line + " ", " " + line, line.replace(" ", "  ", 1), line.replace(" ", "\t", 1), line + "\r", line + "\t",
                line.replace(" ", "", 1), line.replace(" ", "\u00a0", 1), line.upper(), line + " 0", line + " x",
                " ".join(parts[:-1]), " ".join(parts[1:]), " ".join(parts[::-1]), "", " ", line + "#", line + "\x0b",
                line.replace(" ", "\u2028", 1), line.replace(" ", ", ", 1), line + line, line + " " + line]
        for at, part in enumerate(parts):
            if part.isdigit():
                for other in ("0" + part, "+" + part, "-" + part, part + ".0", part + "_", "x", "", part + part,
                              chr(0x660 + int(part)), chr(0xff10 + int(part)), "\u00b9", "None", "True", f"({part})"):
                    rows.append(" ".join(parts[:at] + [other] + parts[at + 1:]))
            else:
                for other in (part.title(), part + "s", part[:-1], part + ":", "", "0", part * 2):
                    rows.append(" ".join(parts[:at] + [other] + parts[at + 1:]))
        return rows

    def test_each_line_spoiled_alone(self):
        steps = ["0 rest to 1", "0 send 1 0 to 2", "1 take 0 1 to 0", "2 test 1 to 0"]
        lines = ["lanes 2", "letters 2", "machine 3"] + steps
        self.assertEqual(len(parse_program("\n".join(lines) + "\n")[2][0][1]), 4)
        for at, line in enumerate(lines):
            for other in self.spoiled_lines(line):
                rows = lines[:at] + [other] + lines[at + 1:]
                self.refused("\n".join(rows) + "\n", at)

    def test_other_line_ends(self):
        for end in ("\r\n", "\r", "\x0b", "\x0c", "\u2028", "\x85"):
            self.refused(TEXT.replace("\n", end), 0)
        self.refused(TEXT.replace("to 1\n", "to 1\r\n"), 3)

    def test_words_and_actions_with_other_numbers_of_parts(self):
        head = "lanes 1\nletters 1\nmachine 1\n"
        for line in ("0 rest 0 to 0", "0 test to 0", "0 test 0 0 to 0", "0 send 0 to 0", "0 send to 0",
                     "0 send 0 0 0 to 0", "0 take 0 to 0", "0 take 0 0 0 to 0", "0 to 0", "to", "0 to", "rest to 0",
                     "0 rest 0", "0 rest to", "0 rest to 0 0", "0 give 0 0 to 0", "0 rest at 0", "0 0 to 0", "machine",
                     "machine 1 1", "machines 1", "step", "0 rest to to 0", "to rest to 0", "None"):
            self.refused(f"{head}{line}\n", 3)

    def test_the_first_wrong_line_is_told(self):
        lines = TEXT.split("\n")[:-1]
        for at in range(5):
            for later in range(at, 5):
                rows = list(lines)
                rows[at] = rows[later] = "wrong"
                self.refused("\n".join(rows) + "\n", at)
                self.refused("\n".join(rows), at if at < 4 else 4)
                self.refused("\n".join(rows) + "\nmore", at)

    def test_texts_of_20000_characters(self):
        self.refused("\n" * 20000, 0)
        self.refused(" " * 20000, 0)
        self.refused("lanes 1\n" * 2500, 1)
        self.refused("lanes 1\nletters 1\n" + "machine 1\n" * 1998, 5)
        self.refused(TEXT + "x" * (20000 - len(TEXT)), 5)
        self.refused(TEXT + "0" * 19000 + "\n", 5)
        self.refused("lanes " + "1" * 19993 + "\n", 0)
        self.refused(TEXT + "0 rest to 0 " * 1600, 5)
        self.refused(TEXT + "1 send 0 0 to 0 " * 1200 + "\n", 5)

    def test_longest_texts_of_programs(self):
        lines = all_step_lines(3, 3, 5)
        sends = [line for line in lines if "send" in line]
        machine = "machine 5\n" + "".join(line + "\n" for line in sends[-8:])
        text = "lanes 3\nletters 3\n" + machine * 3
        self.assertEqual(format_program(parse_program(text)), text)
        self.assertEqual([len(steps) for _, steps in parse_program(text)[2]], [8, 8, 8])


class Prefixes(Calls):
    """The line that is told against all texts of small programs, line by line."""

    def test_all_rows_of_some_lines(self):
        pool = ["lanes 1", "letters 1", "machine 1", "machine 2", "0 rest to 0", "0 rest to 1", "1 rest to 0"]
        begins = self.beginnings()
        rows = [()]
        for _ in range(4):
            rows = [row + (line,) for row in rows for line in pool]
            for row in rows:
                self.check(begins, row)

    def beginnings(self):
        """The lines, up to four, with which texts of programs with one lane, one letter begin."""
        found = {(): False, ("lanes 1",): False, ("lanes 1", "letters 1"): False}
        steps = {1: ["0 rest to 0"], 2: ["0 rest to 0", "0 rest to 1", "1 rest to 0"]}
        rows = [("lanes 1", "letters 1", f"machine {places}") for places in steps]
        for row in rows:
            found[row] = True
            for line in ["machine 1", "machine 2"] + steps[int(row[2][-1])]:
                found[row + (line,)] = True
        return found

    def check(self, begins, row):
        wrong = [at for at in range(len(row)) if row[:at + 1] not in begins]
        text = "".join(line + "\n" for line in row)
        if not wrong and begins[row]:
            self.assertEqual(format_program(parse_program(text)), text)
        else:
            with self.assertRaises(ParseError) as caught:
                parse_program(text)
            self.assertEqual(caught.exception.line, wrong[0] if wrong else len(row), row)
        with self.assertRaises(ParseError) as caught:
            parse_program(text + "0")
        self.assertEqual(caught.exception.line, wrong[0] if wrong else len(row), row)


if __name__ == "__main__":
    unittest.main()

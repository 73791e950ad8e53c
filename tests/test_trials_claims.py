"""Claims that are decided, against all runs with all losses, tried one by one."""

import unittest
from collections import Counter

from calls import Calls
from claiming import some_options, some_wishes
from losinglanes.checker import first_fault
from losinglanes.claims import decide
from plain_checker import all_choices_of, changed_by, start_of
from trials import PROGRAMS, all_led_to, entries_of, lies_in, lots_led_to, seeded, some_lot, some_situation


def longest_in(program):
    """Words are cut to so many letters; no claim here is so by longer words only."""
    return 3 if program[0] * program[1] < 4 else 2


class Claims(Calls):
    def setUp(self):
        self.seen = Counter()

    def decided(self, claim, holds):
        certificate = decide(claim)
        self.assertEqual(certificate[0], "shown" if holds else "broken", claim)
        self.assertIsNone(first_fault(certificate))
        self.seen[holds] += 1

    def some_seen(self):
        self.assertGreater(min(self.seen[True], self.seen[False]), 20)

    def test_never(self):
        for at, (program, _) in enumerate(PROGRAMS):
            random = seeded(at + 60000)
            for lot in (start_of(program), some_lot(random, program, 2)):
                reached = all_led_to(program, lot, longest_in(program))
                for _ in range(3):
                    situation = some_situation(random, program, 3, 2)
                    came = any(lies_in(after, situation) for after in reached)
                    self.decided(("never", program, lot, situation), not came)
        self.some_seen()

    def test_distance(self):
        for at, (program, _) in enumerate(PROGRAMS):
            random = seeded(at + 61000)
            most = 4 if program[0] * program[1] < 4 else 2
            for lot in (start_of(program), some_lot(random, program, 1)):
                # No word of these rows is cut.
                rows = lots_led_to(program, lot, most, most + 1)
                for _ in range(3):
                    self.distances(program, lot, some_situation(random, program, 2, 2), rows)
        self.some_seen()

    def distances(self, program, lot, situation, rows):
        steps = [k for k, row in enumerate(rows) if any(lies_in(after, situation) for after in row)]
        for n in range(len(rows)):
            self.decided(("distance", program, lot, situation, n), steps[:1] == [n])
        if steps:
            self.decided(("distance", program, lot, situation, None), False)
            self.decided(("distance", program, lot, situation, 400), False)

    def test_distance_of_none(self):
        for at, (program, _) in enumerate(PROGRAMS):
            situation = some_situation(seeded(at + 62000), program, 2, 2)
            reached = all_led_to(program, start_of(program), longest_in(program))
            came = any(lies_in(after, situation) for after in reached)
            self.decided(("distance", program, start_of(program), situation, None), not came)
        self.assertGreater(min(self.seen[True], self.seen[False]), 5)

    def test_idle(self):
        for program, _ in PROGRAMS:
            reached = all_led_to(program, start_of(program), 2)
            taken = {entry[1:] for lot in reached for entry, _ in entries_of(program, lot)}
            for machine, (_, steps) in enumerate(program[2]):
                for index in range(len(steps)):
                    self.decided(("idle", program, machine, index), (machine, index) not in taken)
        self.some_seen()

    def test_mend(self):
        for at, (program, _) in enumerate(PROGRAMS):
            random = seeded(at + 63000)
            wishes, options = some_wishes(random, program), some_options(random, program, random.randint(1, 3))
            costs = [cost for cost, choice in all_choices_of(program, options)
                     if self.all_kept(changed_by(program, options, choice), wishes)]
            for n in (None, *range(8), 300):
                self.decided(("mend", program, wishes, options, n), n == min(costs, default=None))
        self.some_seen()

    def all_kept(self, program, wishes):
        reached = all_led_to(program, start_of(program), longest_in(program))
        return all(any(lies_in(lot, situation) for lot in reached) == (word == "can") for word, situation in wishes)


if __name__ == "__main__":
    unittest.main()

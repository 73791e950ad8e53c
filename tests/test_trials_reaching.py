"""Reaching, idle steps and mends against all runs with all losses, tried one by one."""

import unittest

from calls import Calls
from claiming import some_options, some_wishes
from losinglanes.idle import idle_steps, is_idle
from losinglanes.mends import cheapest_mend, keeps
from losinglanes.reaching import can_come, distance, shortest_run
from plain_checker import all_choices_of, changed_by, start_of
from trials import (
    PROGRAMS, after_step, all_led_to, all_lots, can_become, entries_of, lies_above, lies_in, lots_led_to, lots_that_lead,
    seeded, some_lot, some_situation)


def plainly_leads(program, lot, run, situation):
    for words, machine, index in run:
        if not all(map(can_become, lot[1], words)):
            return False
        lot = after_step((lot[0], words), machine, program[2][machine][1][index])
        if lot is None:
            return False
    return lies_in(lot, situation)


class Reaching(Calls):
    def check(self, program, lot, situation, steps):
        self.told(can_come(program, lot, situation), True)
        self.told(distance(program, lot, situation), steps)
        run = shortest_run(program, lot, situation)
        self.assertEqual(len(run), steps)
        self.assertTrue(plainly_leads(program, lot, run, situation), (program, lot, situation, run))

    def test_lots_that_lead_into_a_situation(self):
        for at, (program, longest) in enumerate(PROGRAMS):
            lanes, letters, _ = program
            situation = some_situation(seeded(at + 300), program, 2, 2)
            rows = lots_that_lead(program, situation, 3 if lanes * letters < 4 else 2, longest)
            for lot in all_lots(program, longest):
                steps = [k for k, leading in enumerate(rows) if lot in leading]
                if steps:
                    self.check(program, lot, situation, steps[0])
                else:
                    found = distance(program, lot, situation)
                    self.assertTrue(found is None or found >= len(rows), (program, lot, situation))
                    self.told(can_come(program, lot, situation), found is not None)

    def test_lots_that_runs_lead_to(self):
        told = []
        for at, (program, _) in enumerate(PROGRAMS):
            random = seeded(at + 9000)
            most = 4 if program[0] * program[1] < 4 else 2
            for lot in (start_of(program), some_lot(random, program, 1)):
                rows = lots_led_to(program, lot, most, most + 1)
                for _ in range(6):
                    situation = some_situation(random, program, 2, 2)
                    told.append(self.check_led_to(program, lot, rows, situation))
        self.assertTrue({0, 1, 2, 3, 4, None} <= set(told))

    def check_led_to(self, program, lot, rows, situation):
        """No word of these rows is cut: they are all lots that so many entries lead to."""
        for k, row in enumerate(rows):
            if any(lies_in(after, situation) for after in row):
                self.check(program, lot, situation, k)
                return k
        found = distance(program, lot, situation)
        self.assertTrue(found is None or found >= len(rows), (program, lot, situation))
        return found

    def test_what_cannot_come_about_never_does(self):
        # No situation here comes about by longer words only, so that cutting them changes nothing.
        for at, (program, _) in enumerate(PROGRAMS):
            lot = start_of(program)
            reached = all_led_to(program, lot, 3 if program[0] * program[1] < 4 else 2)
            for turn in range(4):
                situation = some_situation(seeded(at * 4 + turn + 70000), program, 2, 2)
                if any(lies_in(after, situation) for after in reached):
                    self.told(can_come(program, lot, situation), True)
                else:
                    self.told(distance(program, lot, situation), None)

    def test_longer_lanes_and_greater_letters_never_hinder(self):
        for at, (program, _) in enumerate(PROGRAMS):
            situation = some_situation(seeded(at + 31000), program, 2, 2)
            steps = {lot: distance(program, lot, situation) for lot in all_lots(program, 2)}
            for lot, found in steps.items():
                for other, other_found in steps.items():
                    if found is not None and lies_above(other, lot):
                        self.assertIsNotNone(other_found)
                        self.assertLessEqual(other_found, found)


class Idle(Calls):
    def test_steps_that_a_run_takes(self):
        for program, _ in PROGRAMS:
            # No program here needs longer words for a step.
            reached = all_led_to(program, start_of(program), 2)
            taken = {entry[1:] for lot in reached for entry, _ in entries_of(program, lot)}
            every = [(machine, index) for machine, (_, steps) in enumerate(program[2])
                     for index in range(len(steps))]
            self.told(idle_steps(program), tuple(sorted(set(every) - taken)))
            for machine, index in every:
                self.told(is_idle(program, machine, index), (machine, index) not in taken)


class Mends(Calls):
    def test_choices_tried_one_by_one(self):
        told = []
        for at, (program, _) in enumerate(PROGRAMS):
            for turn in range(4):
                random = seeded(at * 10 + turn + 500)
                options, wishes = some_options(random, program, 3), some_wishes(random, program)
                told.append(self.check(program, wishes, options))
        self.assertTrue({None, (), (0,), (1,), (2,), (0, 1), (0, 2), (1, 2)} <= set(told))

    def check(self, program, wishes, options):
        mends = [(cost, choice) for cost, choice in all_choices_of(program, options)
                 if all(self.is_kept(changed_by(program, options, choice), wish) for wish in wishes)]
        best = min(mends)[1] if mends else None
        self.told(cheapest_mend(program, wishes, options), best)
        return best

    def is_kept(self, program, wish):
        word, situation = wish
        came = any(lies_in(lot, situation) for lot in all_led_to(program, start_of(program), 2))
        self.told(keeps(program, wish), came == (word == "can"))
        return came == (word == "can")


if __name__ == "__main__":
    unittest.main()

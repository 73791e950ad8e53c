"""Lots one step back, layers and closed lists against all runs with all losses, tried one by one."""

import unittest

from calls import Calls
from losinglanes.backwards import all_back, back
from losinglanes.closing import closed_list, is_closed, layer
from losinglanes.runs import is_in, leads_into, lots_of
from losinglanes.steps import can_do, done, is_above, steps_of
from trials import (
    PROGRAMS, after_step, all_lots, all_words, can_become, entries_of, lies_above, lies_in, lots_that_lead,
    seeded, some_situation, words_left)


class Trials(Calls):
    def test_words_that_can_become_one_another(self):
        for word in all_words(3, 4):
            left = words_left(word)
            for other in all_words(3, 4):
                self.assertIs(can_become(word, other), other in left, (word, other))

    def test_above_is_what_losing_can_make(self):
        for program, longest in PROGRAMS[:4]:
            lots = all_lots(program, longest)
            for lot in lots:
                for other in lots:
                    self.assertIs(is_above(lot, other), lies_above(lot, other), (lot, other))

    def test_each_step_of_each_lot(self):
        for program, longest in PROGRAMS:
            for lot in all_lots(program, longest):
                pairs = []
                for machine, (_, steps) in enumerate(program[2]):
                    for index, step in enumerate(steps):
                        after = after_step(lot, machine, step)
                        self.assertIs(can_do(program, lot, machine, index), after is not None)
                        if after is not None:
                            pairs.append((machine, index))
                            self.told(done(program, lot, machine, index), after)
                self.told(steps_of(program, lot), tuple(pairs))

    def test_lots_one_step_back_are_those_that_a_step_leads_from(self):
        for program, longest in PROGRAMS:
            lots = all_lots(program, longest)
            afters = {lot: entries_of(program, lot) for lot in lots}
            for target in all_lots(program, longest - 1):
                for machine, (_, steps) in enumerate(program[2]):
                    for index in range(len(steps)):
                        self.check_back(program, lots, afters, target, machine, index)

    def check_back(self, program, lots, afters, target, machine, index):
        before = back(program, target, machine, index)
        for lot in lots:
            leads = any(entry[1:] == (machine, index) and lies_above(after, target)
                        for entry, after in afters[lot])
            self.assertIs(leads, before is not None and lies_above(lot, before),
                          (program, target, machine, index, lot))

    def test_all_lots_one_step_back(self):
        for program, longest in PROGRAMS:
            for target in all_lots(program, longest):
                found = {back(program, target, machine, index)
                         for machine, (_, steps) in enumerate(program[2]) for index in range(len(steps))}
                self.told(all_back(program, target), tuple(sorted(found - {None})))

    def test_layers_are_what_runs_of_so_many_entries_lead_from(self):
        for at, (program, longest) in enumerate(PROGRAMS):
            for turn in range(2):
                situation = some_situation(seeded((at + 1) * 100 + turn), program, 2, 2)
                self.check_layers(program, situation, longest)

    def check_layers(self, program, situation, longest):
        lanes, letters, _ = program
        rows = lots_that_lead(program, situation, 3 if lanes * letters < 4 else 2, longest)
        for k, leading in enumerate(rows):
            found = layer(program, situation, k)
            for lot in all_lots(program, longest):
                self.assertIs(lies_in(lot, found), lot in leading, (program, situation, k, lot))
                self.assertIs(is_in(lot, found), lot in leading)

    def test_lots_that_some_run_leads_from_are_above_the_closed_list(self):
        for at, (program, longest) in enumerate(PROGRAMS):
            situation = some_situation(seeded(at + 5000), program, 2, 1)
            found = closed_list(program, situation)
            self.assertIs(is_closed(program, situation, found), True)
            # Nothing below it leads to it, and it is led from by runs that end.
            for lot in all_lots(program, longest):
                led = any(lies_in(after, found) for _, after in entries_of(program, lot))
                if not lies_in(lot, found):
                    self.assertIs(led, False, (program, situation, lot))
            self.check_leading(program, situation, found)

    def check_leading(self, program, situation, found):
        for lot in found:
            at, entries = lot, []
            for k in reversed(range(self.depth_of(program, situation, lot))):
                nearer = layer(program, situation, k)
                entry, at = [(entry, after) for entry, after in entries_of(program, at)
                             if lies_in(after, nearer)][0]
                entries.append(entry)
            self.gives(True, leads_into, program, lot, tuple(entries), situation)

    def depth_of(self, program, situation, lot):
        k = 0
        while not lies_in(lot, layer(program, situation, k)):
            k += 1
        return k

    def test_more_and_greater_letters_never_hinder(self):
        for at, (program, longest) in enumerate(PROGRAMS):
            random = seeded(at + 900)
            lots = all_lots(program, 2)
            for lot in lots:
                entries = self.some_run(random, program, lot)
                for other in lots:
                    if entries and lies_above(other, lot):
                        self.check_same_run(program, lot, other, entries)

    def some_run(self, random, program, lot):
        entries = ()
        for _ in range(4):
            found = entries_of(program, lot)
            if found:
                entry, lot = random.choice(found)
                entries += (entry,)
        return entries

    def check_same_run(self, program, lot, other, entries):
        after = lots_of(program, lot, entries)
        self.assertEqual(lots_of(program, other, entries), (other,) + after[1:])
        self.assertIs(leads_into(program, other, entries, after[-1:]), True)


if __name__ == "__main__":
    unittest.main()

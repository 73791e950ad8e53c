"""Live lots after histories of calls, against what their deeds lead to and what all runs lead to."""

import unittest
from collections import Counter

from losinglanes.errors import CannotDo, CannotLose, CannotWear, NothingDone, OutOfReach, Refused
from losinglanes.lives import Live
from losinglanes.runs import lots_of
from plain import plain_reach
from test_lives import LiveCalls
from trials import (
    PROGRAMS, after_step, all_led_to, lies_above, lies_in, seeded, some_lot, some_program, some_situation)


class Model:
    """What a live lot is: its deeds and kept goals; all else is worked out anew each time."""

    def __init__(self, program, goals):
        self.program, self.goals = program, goals
        self.deeds, self.kept = [], set()
        self.known = {}

    def after(self, lot, deed):
        """The lot after the deed, or the name of the error."""
        word, one, other = deed
        if word == "do":
            steps = self.program[2][one][1] if one < len(self.program[2]) else ()
            after = after_step(lot, one, steps[other]) if other < len(steps) else None
            return "CannotDo" if after is None else after
        words = [list(letters) for letters in lot[1]]
        if word == "lose":
            if one >= len(words) or other >= len(words[one]):
                return "CannotLose"
            del words[one][other]
        else:
            if one >= len(words) or other >= len(words[one]) or words[one][other] == 0:
                return "CannotWear"
            words[one][other] -= 1
        return lot[0], tuple(map(tuple, words))

    def lots(self):
        lots = [((0,) * len(self.program[2]), ((),) * self.program[0])]
        for deed in self.deeds:
            lots.append(self.after(lots[-1], deed))
        return lots

    def steps_to(self, goal, lot):
        key = goal, lot
        if key not in self.known:
            self.known[key] = plain_reach(self.program, lot, self.goals[goal], 400)[0]
        return self.known[key]

    def refusal(self, deed):
        """Do the deed and return None, or the name and the goal of the error."""
        lot = self.after(self.lots()[-1], deed)
        if type(lot) is str:
            return lot, None
        for goal in sorted(self.kept):
            if self.steps_to(goal, lot) is None:
                return "OutOfReach", goal
        self.deeds.append(deed)
        return None

    def row_refusal(self, deeds):
        count = len(self.deeds)
        for index, deed in enumerate(deeds):
            found = self.refusal(deed)
            if found is not None:
                del self.deeds[count:]
                return index, found[0]
        return None

    def state(self):
        lots = self.lots()
        steps = [(machine, index) for machine, (_, rows) in enumerate(self.program[2])
                 for index, step in enumerate(rows) if after_step(lots[-1], machine, step) is not None]
        entries = [(lot[1], deed[1], deed[2]) for lot, deed in zip(lots, self.deeds) if deed[0] == "do"]
        goals = [goal for goal in range(len(self.goals)) if self.steps_to(goal, lots[-1]) is not None]
        return (self.program, self.goals, lots[-1], tuple(self.deeds), tuple(steps), tuple(entries), tuple(goals),
                tuple(sorted(self.kept)), len(self.deeds))


class Histories(LiveCalls):
    def some_deed(self, random, live):
        steps, letters = live.steps(), self.positions(live)
        if steps and random.random() < 0.6:
            return ("do",) + random.choice(steps)
        if letters and random.random() < 0.6:
            return (random.choice(("lose", "wear")),) + random.choice(letters)
        return random.choice(("do", "lose", "wear")), random.randrange(3), random.randrange(4)

    def positions(self, live):
        return [(lane, at) for lane, word in enumerate(live.lot()[1]) for at in range(len(word))]

    def turn(self, random, live, model):
        """One call of both; returns its name and what became of it."""
        name = random.choice(("deed",) * 14 + ("row", "row", "keep", "keep", "keep", "let_go", "undo", "back_to"))
        if name == "deed":
            deed = self.some_deed(random, live)
            return deed[0], self.same_deed(live, model, deed)
        if name == "row":
            return name, self.same_row(live, model, [self.some_deed(random, live) for _ in range(random.randrange(4))])
        goals = range(len(live.goals()))
        if name in ("keep", "let_go") and goals:
            return name, self.same_keeping(live, model, name, random.choice(goals))
        if name in ("undo", "back_to"):
            return name, self.same_undoing(live, model, name, random.randrange(len(live) + 2))
        return name, "no goal"

    def same_deed(self, live, model, deed):
        found = model.refusal(deed)
        try:
            getattr(live, deed[0])(*deed[1:])
        except OutOfReach as error:
            self.assertEqual(found, ("OutOfReach", error.goal))
        except (CannotDo, CannotLose, CannotWear) as error:
            self.assertEqual(found, (type(error).__name__, None))
        else:
            self.assertIsNone(found)
        return found and found[0]

    def same_row(self, live, model, deeds):
        found = model.row_refusal(deeds)
        try:
            live += tuple(deeds)
        except Refused as error:
            self.assertEqual(found, (error.index, error.reason))
        else:
            self.assertIsNone(found)
        return found and found[1]

    def same_keeping(self, live, model, name, goal):
        if name == "let_go":
            live.let_go(goal)
            model.kept.discard(goal)
            return None
        try:
            live.keep(goal)
        except OutOfReach as error:
            self.assertEqual(error.goal, goal)
            self.assertIsNone(model.steps_to(goal, live.lot()))
            return "OutOfReach"
        self.assertIsNotNone(model.steps_to(goal, live.lot()))
        model.kept.add(goal)
        return None

    def same_undoing(self, live, model, name, count):
        if name == "undo":
            count = len(live) - 1
        try:
            live.undo() if name == "undo" else live.back_to(count)
        except NothingDone:
            self.assertFalse(0 <= count <= len(model.deeds))
            return "NothingDone"
        self.assertTrue(0 <= count <= len(model.deeds))
        del model.deeds[count:]
        return None

    def check(self, live, model):
        state = self.state(live)
        self.assertEqual(repr(state), repr(model.state()))
        self.assertTrue(set(state[7]) <= set(state[6]))
        lots = lots_of(live.program(), model.lots()[0], live.entries())
        self.assertTrue(lies_above(lots[-1], live.lot()))
        for goal in range(len(live.goals())):
            run, steps = live.way_to(goal), model.steps_to(goal, live.lot())
            self.assertEqual(None if run is None else len(run), steps)
            if run is not None:
                self.assertTrue(lies_in(lots_of(live.program(), live.lot(), run)[-1], live.goals()[goal]))

    def test_many_histories(self):
        told = Counter()
        for seed in range(300):
            random = seeded(seed + 777)
            lanes, letters = ((1, 2), (1, 3), (2, 1), (2, 2), (1, 1))[seed % 5]
            program = some_program(random, lanes, letters, 1 + seed % 2, 3, 6)
            goals = tuple([some_situation(random, program, 2, 2) for _ in range(random.randrange(4))])
            live, model = Live(program, goals), Model(program, goals)
            for turn in range(40):
                told[self.turn(random, live, model)] += 1
                self.check(live, model)
                if turn % 10 == 9:
                    self.check_anew(live)
        for name, ends in (
                ("do", (None, "CannotDo", "OutOfReach")), ("lose", (None, "CannotLose", "OutOfReach")),
                ("wear", (None, "CannotWear", "OutOfReach")), ("row", (None, "CannotDo", "CannotLose", "CannotWear", "OutOfReach")),
                ("keep", (None, "OutOfReach")), ("let_go", (None,)), ("undo", (None, "NothingDone")),
                ("back_to", (None, "NothingDone"))):
            for end in ends:
                self.assertGreater(told[name, end], 0, (name, end))

    def check_anew(self, live):
        """One made anew by the same deeds is equal, and so is a twin."""
        anew = Live(live.program(), live.goals())
        for at in range(0, len(live), 7):
            anew += live.deeds()[at:at + 7]
        self.assertTrue(anew == live)
        self.assertEqual(repr(self.state(anew)[:7]), repr(self.state(live)[:7]))
        self.assertTrue(live.twin() == live)
        self.assertEqual(repr(self.state(live.twin())), repr(self.state(live)))


class AllRuns(LiveCalls):
    def test_goal_that_is_not_open_never_comes_about(self):
        """All runs with all losses, words cut to two or three letters, from the lots of some deeds."""
        seen = Counter()
        for at, (program, _) in enumerate(PROGRAMS):
            random = seeded(at + 1234)
            goals = tuple([some_situation(random, program, 2, 2) for _ in range(3)])
            live = Live(program, goals)
            for _ in range(6):
                reached = all_led_to(program, live.lot(), 3 if program[0] * program[1] < 4 else 2)
                for goal in range(3):
                    came = any(lies_in(lot, goals[goal]) for lot in reached)
                    self.assertEqual(goal in live.open_goals(), came, (program, live.lot(), goals[goal]))
                    seen[came] += 1
                steps = [step for step in live.steps() if len(live) < 2 or step[0] == 0]
                if steps and max(map(len, live.lot()[1])) < 2:
                    live.do(*random.choice(steps))
                elif live.lot()[1][0]:
                    live.lose(0, 0)
        self.assertGreater(min(seen[True], seen[False]), 50)

    def test_no_deed_makes_a_goal_open_that_is_not(self):
        for at, (program, _) in enumerate(PROGRAMS):
            random = seeded(at + 4321)
            goals = tuple([(some_lot(random, program, 2),) for _ in range(3)])
            live, before = Live(program, goals), {0, 1, 2}
            for _ in range(12):
                self.assertTrue(set(live.open_goals()) <= before)
                before = set(live.open_goals())
                if live.steps():
                    live.do(*random.choice(live.steps()))
                if random.random() < 0.5 and live.lot()[1][-1]:
                    live.lose(program[0] - 1, random.randrange(len(live.lot()[1][-1])))


if __name__ == "__main__":
    unittest.main()

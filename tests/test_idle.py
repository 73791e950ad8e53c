import unittest

from calls import Calls
from losinglanes import idle
from losinglanes.closing import closed_list, is_closed, layer, least_of
from losinglanes.errors import LimitExceeded
from losinglanes.idle import idle_steps, is_idle, situation_of
from losinglanes.reaching import can_come, distance, shortest_run
from losinglanes.runs import is_in, leads_into
from plain import plain_reach
from trials import after_step, seeded, some_program

EXAMPLE = (1, 2, ((1, ((0, ("send", 0, 0), 0),)), (2, ((0, ("take", 0, 1), 1),))))


def first_lot_of(program):
    return (0,) * len(program[2]), ((),) * program[0]


class Situations(Calls):
    def test_functions_stand_in_their_file(self):
        self.stands_in(idle, situation_of, "(program, machine, index)")
        self.stands_in(idle, is_idle, "(program, machine, index, *, tries=400)")
        self.stands_in(idle, idle_steps, "(program, *, tries=400)")

    def test_examples_of_the_interface(self):
        self.gives(((1, 0),), idle_steps, EXAMPLE)
        self.gives((((0, 0), ((1,),)),), situation_of, EXAMPLE, 1, 0)

    def test_each_action(self):
        for action, words in (
                (("rest",), ((), (), ())), (("test", 0), ((), (), ())), (("test", 2), ((), (), ())),
                (("send", 0, 2), ((), (), ())), (("send", 2, 0), ((), (), ())),
                (("take", 0, 2), ((2,), (), ())), (("take", 1, 0), ((), (0,), ())),
                (("take", 2, 1), ((), (), (1,)))):
            for start in range(3):
                for end in range(3):
                    program = (3, 3, ((3, ((start, action, end),)),))
                    self.gives((((start,), words),), situation_of, program, 0, 0)

    def test_the_others_are_in_any_places(self):
        step = (2, ("take", 0, 0), 1)
        for one in range(1, 6):
            program = (1, 1, ((3, (step,)), (one, ())))
            self.gives(tuple([((2, place), ((0,),)) for place in range(one)]), situation_of, program, 0, 0)
            program = (1, 1, ((one, ()), (3, (step,))))
            self.gives(tuple([((place, 2), ((0,),)) for place in range(one)]), situation_of, program, 1, 0)
            for two in range(1, 6):
                pairs = [(place, other) for place in range(one) for other in range(two)]
                for at in range(3):
                    machines = [(one, ()), (two, ())]
                    machines.insert(at, (3, (step,)))
                    lots = [(pair[:at] + (2,) + pair[at:], ((0,),)) for pair in pairs]
                    self.gives(tuple(sorted(lots)), situation_of, (1, 1, tuple(machines)), at, 0)

    def test_25_lots_stand_in_pythons_order(self):
        program = (2, 1, ((5, ()), (5, ((4, ("send", 1, 0), 0),)), (5, ())))
        found = situation_of(program, 1, 0)
        self.assertEqual(len(found), 25)
        self.assertEqual(found, tuple(sorted(set(found))))
        self.assertEqual(found[:6], tuple([((0, 4, place), ((), ())) for place in range(5)])
                         + (((1, 4, 0), ((), ())),))
        self.assertEqual(found[-1], ((4, 4, 4), ((), ())))

    def test_index_tells_the_step(self):
        steps = ((0, ("rest",), 1), (0, ("take", 0, 1), 0), (1, ("take", 0, 0), 0))
        program = (1, 2, ((1, ()), (2, steps)))
        self.gives((((0, 0), ((),)),), situation_of, program, 1, 0)
        self.gives((((0, 0), ((1,),)),), situation_of, program, 1, 1)
        self.gives((((0, 1), ((0,),)),), situation_of, program, 1, 2)

    def test_its_lots_are_least_and_let_the_step_be_done(self):
        for seed in range(40):
            program = some_program(seeded(seed + 60), 1 + seed % 3, 1 + seed % 3, 1 + seed % 3, 5, 8)
            for machine, (_, steps) in enumerate(program[2]):
                for index, step in enumerate(steps):
                    found = situation_of(program, machine, index)
                    self.plain(found)
                    self.assertEqual(found, least_of(found))
                    for lot in found:
                        self.assertIsNotNone(after_step(lot, machine, step))

    def test_functions_of_the_earlier_stages_take_25_lots(self):
        program = (1, 1, ((5, ((0, ("rest",), 1),)), (5, ((0, ("send", 0, 0), 1),)), (5, ((1, ("take", 0, 0), 2),))))
        found = situation_of(program, 2, 0)
        start = first_lot_of(program)
        self.gives(found, layer, program, found, 0)
        # One step back the second machine sends the letter.
        back = {((one, 0, 1), ((),)) for one in range(5)}
        self.assertTrue(back <= set(layer(program, found, 1)))
        self.gives(True, is_closed, program, found, closed_list(program, found))
        self.gives(False, is_in, start, found)
        self.gives(True, is_in, ((3, 2, 1), ((0, 0),)), found)
        self.gives(None, distance, program, start, found)
        self.gives(False, can_come, program, start, found)
        self.gives(1, distance, program, ((3, 0, 1), ((),)), found)
        run = shortest_run(program, ((3, 0, 1), ((),)), found)
        self.gives(True, leads_into, program, ((3, 0, 1), ((),)), run, found)


class IsIdle(Calls):
    def idle(self, program, *pairs):
        self.gives(pairs, idle_steps, program)
        for machine, (_, steps) in enumerate(program[2]):
            for index in range(len(steps)):
                self.gives((machine, index) in pairs, is_idle, program, machine, index)

    def test_no_step_is_idle(self):
        self.idle((1, 1, ((1, ()),)))
        self.idle((3, 1, ((5, ()), (1, ()), (2, ()))))
        self.idle((1, 1, ((1, ((0, ("send", 0, 0), 0), (0, ("take", 0, 0), 0), (0, ("test", 0), 0))),)))
        self.idle((1, 3, ((2, ((0, ("send", 0, 2), 1), (1, ("take", 0, 0), 1), (1, ("take", 0, 1), 1),
                               (1, ("take", 0, 2), 0))),)))

    def test_all_steps_are_idle(self):
        self.idle((1, 1, ((1, ((0, ("take", 0, 0), 0),)),)), (0, 0))
        self.idle((1, 2, ((2, ((0, ("take", 0, 1), 1), (1, ("rest",), 0))), (2, ((1, ("send", 0, 1), 0),)))),
                  (0, 0), (0, 1), (1, 0))

    def test_place_that_is_never_reached(self):
        self.idle((1, 1, ((3, ((0, ("rest",), 1), (1, ("send", 0, 0), 0), (2, ("rest",), 0))),)), (0, 2))
        self.idle((1, 1, ((3, ((0, ("rest",), 2), (1, ("rest",), 2), (1, ("test", 0), 0))),)), (0, 1), (0, 2))
        # The first machine's place is reached, the second's of the same number is not.
        steps = ((0, ("rest",), 1), (1, ("rest",), 0))
        self.idle((1, 1, ((2, steps), (2, steps[1:]))), (1, 0))

    def test_letter_that_is_never_sent(self):
        self.idle((1, 3, ((1, ((0, ("send", 0, 1), 0),)), (1, tuple(
            [(0, ("take", 0, letter), 0) for letter in range(3)])))), (1, 2))
        self.idle((2, 1, ((1, ((0, ("send", 0, 0), 0), (0, ("take", 0, 0), 0), (0, ("take", 1, 0), 0))),)), (0, 2))
        # The letter is sent only where it has been taken.
        self.idle((1, 1, ((2, ((0, ("take", 0, 0), 1), (1, ("send", 0, 0), 0))),)), (0, 0), (0, 1))

    def test_lanes_can_always_be_empty_again_by_losing(self):
        self.idle((1, 1, ((2, ((0, ("send", 0, 0), 1), (1, ("test", 0), 0))),)))
        self.idle((2, 1, ((2, ((0, ("send", 1, 0), 1), (1, ("take", 1, 0), 1), (1, ("test", 1), 0))),)))

    def test_smaller_letters_come_of_greater_ones(self):
        self.idle((1, 3, ((1, ((0, ("send", 0, 2), 0),)), (2, ((0, ("take", 0, 0), 1), (1, ("take", 0, 1), 0))))))

    def test_step_of_one_machine_that_another_one_makes_possible(self):
        takes = ((0, ("take", 0, 0), 1), (1, ("take", 0, 0), 2), (2, ("take", 1, 0), 0))
        self.idle((2, 1, ((2, ((0, ("send", 0, 0), 1),)), (3, takes))), (1, 1), (1, 2))
        self.idle((2, 1, ((2, ((0, ("send", 0, 0), 1), (1, ("send", 0, 0), 1))), (3, takes))), (1, 2))
        self.idle((2, 1, ((1, ((0, ("send", 0, 0), 0), (0, ("send", 1, 0), 0))), (3, takes))))

    def test_three_machines_with_five_places(self):
        ring = tuple([(place, ("rest",), (place + 1) % 5) for place in range(5)])
        self.idle((1, 1, ((5, ring), (5, ring[:3]), (5, ring[1:]))),
                  (2, 0), (2, 1), (2, 2), (2, 3))

    def test_agrees_with_the_document(self):
        told = set()
        for seed in range(60):
            program = some_program(seeded(seed + 800), 1 + seed % 2, 1 + seed % 3, 1 + seed % 2, 3, 5)
            pairs = []
            for machine, (_, steps) in enumerate(program[2]):
                for index in range(len(steps)):
                    found = situation_of(program, machine, index)
                    if plain_reach(program, first_lot_of(program), found, 400)[0] is None:
                        pairs.append((machine, index))
            self.idle(program, *pairs)
            told.add(len(pairs))
        self.assertTrue(len(told) > 4)


class Limits(Calls):
    def exceeds(self, limit, function, *given, **named):
        self.raises(LimitExceeded, {"limit": limit}, function, *given, **named)

    def test_tries_is_passed_by_its_name_alone(self):
        with self.assertRaises(TypeError):
            is_idle(EXAMPLE, 1, 0, 400)
        with self.assertRaises(TypeError):
            idle_steps(EXAMPLE, 400)
        self.gives(True, is_idle, tries=1, index=0, machine=1, program=EXAMPLE)
        self.gives(((1, 0),), idle_steps, tries=2, program=EXAMPLE)

    def test_is_idle_raises_as_can_come_does(self):
        # Two places, two lots: one in each layer of the second step's situation.
        program = (1, 1, ((3, ((0, ("rest",), 1), (1, ("rest",), 2), (2, ("rest",), 2))),))
        for index, taken in ((0, 1), (1, 2), (2, 3)):
            self.gives(False, is_idle, program, 0, index, tries=taken)
            for tries in range(1, taken):
                self.exceeds(tries, is_idle, program, 0, index, tries=tries)

    def test_idle_steps_raises_if_is_idle_does_for_some_step(self):
        program = (1, 1, ((3, ((0, ("rest",), 1), (1, ("rest",), 2), (2, ("rest",), 2))),))
        self.gives((), idle_steps, program, tries=3)
        self.exceeds(2, idle_steps, program, tries=2)
        self.exceeds(1, idle_steps, program, tries=1)
        # The step that is too much may be the first, the middle one or the last one.
        for rows in (((0, ("take", 0, 0), 0), (1, ("rest",), 0), (2, ("rest",), 1)),
                     ((0, ("rest",), 2), (1, ("rest",), 0), (2, ("rest",), 1)),
                     ((0, ("rest",), 1), (1, ("rest",), 2), (2, ("take", 0, 0), 2))):
            program = (1, 1, ((3, rows),))
            needed = []
            for index in range(3):
                taken = 1
                while self.is_too_much(program, index, taken):
                    taken += 1
                needed.append(taken)
            self.assertGreater(max(needed), 1)
            idle_steps(program, tries=max(needed))
            self.exceeds(max(needed) - 1, idle_steps, program, tries=max(needed) - 1)

    def is_too_much(self, program, index, tries):
        try:
            is_idle(program, 0, index, tries=tries)
        except LimitExceeded:
            return True
        return False

    def test_situation_with_25_lots(self):
        program = (1, 1, ((5, ()), (2, ((0, ("rest",), 0), (1, ("rest",), 0))), (5, ())))
        self.gives(True, is_idle, program, 1, 1, tries=25)
        self.exceeds(24, is_idle, program, 1, 1, tries=24)
        self.gives(((1, 1),), idle_steps, program, tries=25)
        self.exceeds(24, idle_steps, program, tries=24)

    def test_400_lots_and_more(self):
        takes = [(0, ("take", 0, 0), 1)]
        takes.extend((place, ("take", lane, 0), place + 1) for place in (1, 2, 3) for lane in (0, 1))
        steps = tuple(takes) + ((4, ("rest",), 4),)
        sends = ((0, ("send", 0, 0), 1), (1, ("send", 1, 0), 2))
        program = (2, 1, ((5, steps), (5, sends[:1]), (5, ())))
        self.gives(True, is_idle, program, 0, 7)
        self.exceeds(399, is_idle, program, 0, 7, tries=399)
        self.assertIn((0, 7), idle_steps(program))
        self.exceeds(399, idle_steps, program, tries=399)
        program = (2, 1, ((5, steps), (5, sends), (5, ())))
        self.exceeds(400, is_idle, program, 0, 7)
        self.exceeds(400, is_idle, program, 0, 7, tries=400)
        self.exceeds(400, idle_steps, program)


if __name__ == "__main__":
    unittest.main()

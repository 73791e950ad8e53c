import unittest

from calls import Calls
from losinglanes import backwards
from losinglanes.backwards import all_back, back

EXAMPLE = (1, 2, ((1, ((0, ("send", 0, 0), 0),)), (2, ((0, ("take", 0, 0), 1),))))


def one_step(action, start=0, end=1):
    """A program of three lanes and three machines; the second one has this step alone."""
    return 3, 3, ((2, ()), (3, ((start, action, end),)), (2, ((0, ("rest",), 1),)))


class Back(Calls):
    def leads_back(self, action, words, before):
        program, lot = one_step(action), ((1, 1, 0), words)
        if before is None:
            self.gives(None, back, program, lot, 1, 0)
            self.gives((), all_back, program, lot)
        else:
            self.gives(((1, 0, 0), before), back, program, lot, 1, 0)
            self.gives((((1, 0, 0), before),), all_back, program, lot)

    def test_functions_stand_in_their_file(self):
        self.stands_in(backwards, back, "(program, lot, machine, index)")
        self.stands_in(backwards, all_back, "(program, lot)")

    def test_example_of_the_interface(self):
        self.gives(((0, 0), ((0,),)), back, EXAMPLE, ((0, 1), ((),)), 1, 0)
        self.gives(((0, 0), ((1,),)), back, EXAMPLE, ((0, 0), ((1, 0),)), 0, 0)
        self.gives((((0, 0), ((0, 1),)), ((0, 1), ((1,),))), all_back, EXAMPLE, ((0, 1), ((1,),)))

    def test_send_with_an_empty_word(self):
        for lane in range(3):
            for letter in range(3):
                for others in ((), (letter,), (0, 0)):
                    words = [others, others, others]
                    words[lane] = ()
                    self.leads_back(("send", lane, letter), tuple(words), tuple(words))

    def test_send_with_a_last_letter(self):
        for lane in range(3):
            for letter in range(3):
                for last in range(3):
                    for front in ((), (2,), (0, 1), (last, last)):
                        words, before = [(0,), (1, 0), ()], [(0,), (1, 0), ()]
                        words[lane] = front + (last,)
                        # A greater letter than the one sent was there before.
                        before[lane] = front if last <= letter else front + (last,)
                        self.leads_back(("send", lane, letter), tuple(words), tuple(before))

    def test_take_into_an_empty_word_and_in_front_of_another_one(self):
        for lane in range(3):
            for letter in range(3):
                for word in ((), (0,), (2,), (letter, letter), (1, 2, 0)):
                    words, before = [(0,), (1, 0), ()], [(0,), (1, 0), ()]
                    words[lane], before[lane] = word, (letter,) + word
                    self.leads_back(("take", lane, letter), tuple(words), tuple(before))

    def test_test_with_an_empty_word_and_with_one_that_is_not(self):
        for lane in range(3):
            for others in ((), (0,), (2, 1)):
                for word in ((), (0,), (2,), (0, 0)):
                    words = [others, others, others]
                    words[lane] = word
                    before = tuple(words) if word == () else None
                    self.leads_back(("test", lane), tuple(words), before)

    def test_rest(self):
        for words in (((), (), ()), ((0,), (2, 1), ()), ((2,) * 60, (1,), (0,))):
            self.leads_back(("rest",), words, words)

    def test_machine_that_is_not_in_the_place_to(self):
        for action in (("send", 0, 0), ("take", 0, 0), ("test", 1), ("rest",)):
            for start in range(3):
                for end in range(3):
                    for place in range(3):
                        program = one_step(action, start, end)
                        lot = ((0, place, 0), ((0,), (), ()))
                        if place != end:
                            self.gives(None, back, program, lot, 1, 0)
                            self.gives((), all_back, program, lot)
                        else:
                            self.assertEqual(back(program, lot, 1, 0)[0], (0, start, 0))

    def test_step_from_a_place_to_the_same_place(self):
        for action, before in ((("send", 0, 0), ()), (("take", 0, 1), (1, 0)), (("rest",), (0,))):
            self.gives(((0, 2, 0), (before, (), ())),
                       back, one_step(action, 2, 2), ((0, 2, 0), ((0,), (), ())), 1, 0)

    def test_index_tells_the_step_and_machine_whose_it_is(self):
        rows = ((0, ("send", 0, 0), 1), (0, ("take", 0, 1), 1), (1, ("rest",), 0))
        program = (1, 2, ((2, rows), (2, rows[1:])))
        lot = ((1, 0), ((0,),))
        self.gives(((0, 0), ((),)), back, program, lot, 0, 0)
        self.gives(((0, 0), ((1, 0),)), back, program, lot, 0, 1)
        self.gives(None, back, program, lot, 0, 2)
        self.gives(None, back, program, lot, 1, 0)
        self.gives(((1, 1), ((0,),)), back, program, lot, 1, 1)

    def test_words_of_60_letters(self):
        long = (0, 1, 2) * 20
        self.leads_back(("take", 1, 0), ((), long, ()), ((), (0,) + long, ()))
        self.leads_back(("send", 1, 2), ((), long, ()), ((), long[:-1], ()))
        self.leads_back(("send", 1, 1), ((), long, ()), ((), long, ()))
        self.leads_back(("test", 1), ((), long, ()), None)
        self.leads_back(("test", 1), (long, (), long), (long, (), long))


class AllBack(Calls):
    def test_all_as_a_set_in_its_sequence(self):
        # Python's order of tuples is not that of the steps here.
        program = (1, 3, (
            (3, ((0, ("send", 0, 2), 0), (0, ("take", 0, 1), 0), (0, ("test", 0), 0), (2, ("rest",), 0))),
            (2, ((0, ("take", 0, 0), 1), (1, ("send", 0, 1), 1), (1, ("take", 0, 2), 1)))))
        self.gives((
            ((0, 0), ((0, 1, 2),)), ((0, 1), ((1,),)), ((0, 1), ((1, 1, 2),)), ((0, 1), ((1, 2),)),
            ((0, 1), ((2, 1, 2),)), ((2, 1), ((1, 2),))), all_back, program, ((0, 1), ((1, 2),)))
        self.gives((
            ((0, 0), ((0,),)), ((0, 1), ((),)), ((0, 1), ((1,),)), ((0, 1), ((2,),)),
            ((2, 1), ((),))), all_back, program, ((0, 1), ((),)))

    def test_steps_that_lead_back_to_one_lot_stand_once(self):
        rows = ((0, ("rest",), 0), (0, ("send", 0, 0), 0), (0, ("send", 0, 1), 0), (0, ("test", 0), 0))
        self.gives((((0,), ((),)),), all_back, (1, 2, ((1, rows),)), ((0,), ((),)))
        self.gives((((0,), ((),)), ((0,), ((1,),))), all_back, (1, 2, ((1, rows),)), ((0,), ((1,),)))
        self.gives((((0, 0), ((),)), ((0, 0), ((1,),))),
                   all_back, (1, 2, ((1, rows), (1, rows))), ((0, 0), ((1,),)))

    def test_none(self):
        self.gives((), all_back, (1, 1, ((1, ()),)), ((0,), ((),)))
        self.gives((), all_back, (1, 1, ((2, ((0, ("rest",), 1), (1, ("rest",), 1))),)), ((0,), ((),)))
        self.gives((), all_back, (2, 1, ((1, ((0, ("test", 0), 0), (0, ("test", 1), 0))),)),
                   ((0,), ((0,), (0,))))

    def test_a_lot_that_leads_back_to_itself_is_told_too(self):
        self.gives((((0,), ((),)),), all_back, (1, 1, ((1, ((0, ("rest",), 0),)),)), ((0,), ((),)))


if __name__ == "__main__":
    unittest.main()

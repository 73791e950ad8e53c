import unittest

from calls import Calls
from losinglanes import closing
from losinglanes.closing import closed_list, is_closed, layer, least_of
from losinglanes.errors import LimitExceeded
from plain import plain_layers, plain_least
from trials import lies_in, seeded, some_program, some_situation

EXAMPLE = (1, 2, ((1, ((0, ("send", 0, 0), 0),)), (2, ((0, ("take", 0, 0), 1),))))
BAD = (((0, 1), ((),)),)
# The layers 0, 1 and 2 of BAD in EXAMPLE; the lot with a letter belongs to the layer 1 alone.
LAYERS = (
    (((0, 1), ((),)),),
    (((0, 0), ((0,),)), ((0, 1), ((),))),
    (((0, 0), ((),)), ((0, 1), ((),))))

TAKER = (1, 1, ((2, ((0, ("take", 0, 0), 1),)),))
SENDER = (3, 1, ((2, ((0, ("send", 0, 0), 0), (0, ("send", 1, 0), 0), (0, ("send", 2, 0), 0))),))


def sent(one, two=0, three=0):
    """A lot of SENDER: back from it lead (one + 1) * (two + 1) * (three + 1) lots, itself too."""
    return (0,), ((0,) * one, (0,) * two, (0,) * three)


class LeastOf(Calls):
    def test_functions_stand_in_their_file(self):
        self.stands_in(closing, least_of, "(lots)")
        self.stands_in(closing, is_closed, "(program, situation, lots)")
        self.stands_in(closing, layer, "(program, situation, k, *, tries=400)")
        self.stands_in(closing, closed_list, "(program, situation, *, tries=400)")

    def test_no_lot(self):
        self.gives((), least_of, ())

    def test_one_lot(self):
        for lot in (((0,), ((),)), ((1, 2), ((0, 1), (2, 2))), ((0,), ((1,) * 60,))):
            self.gives((lot,), least_of, (lot,))

    def test_equal_lots(self):
        one, two = ((0,), ((0, 1),)), ((0,), ((1, 0),))
        self.gives((one,), least_of, (one, one))
        self.gives((one,), least_of, (one,) * 500)
        self.gives((one, two), least_of, (two, one, one, two))

    def test_lots_above_one_another_in_either_sequence(self):
        for below, above in (
                (((0,), ((),)), ((0,), ((0,),))), (((0,), ((0,),)), ((0,), ((1,),))),
                (((0,), ((0, 0),)), ((0,), ((0, 1, 0),))), (((0,), ((1,),)), ((0,), ((0, 2),))),
                (((0,), ((), (1,))), ((0,), ((0,), (1,)))), (((1,), ((0,), ())), ((1,), ((1,), (0,))))):
            self.gives((below,), least_of, (below, above))
            self.gives((below,), least_of, (above, below))
            self.gives((below,), least_of, (above, below, above, below))

    def test_chain_of_lots(self):
        chain = tuple([((0,), ((0,) * many,)) for many in range(1, 60)])
        self.gives(chain[:1], least_of, chain)
        self.gives(chain[:1], least_of, chain[::-1])
        self.gives(chain[:1], least_of, chain[20:] + chain[:20])

    def test_lots_none_of_which_is_above_another_one(self):
        lots = tuple([((0,), ((0,) * many, (0,) * (60 - many))) for many in range(61)])
        self.gives(lots, least_of, lots)
        self.gives(lots, least_of, lots[::-1])
        self.gives((((0,), ((0, 1),)), ((0,), ((1, 0),))), least_of, (((0,), ((1, 0),)), ((0,), ((0, 1),))))

    def test_lots_with_other_places(self):
        lots = tuple([((one, two), ((0,) * one,)) for one in range(3) for two in range(3)])
        self.gives(lots, least_of, lots)
        self.gives(lots, least_of, lots[::-1])
        above = tuple([(places, (word + (0,),)) for places, (word,) in lots])
        self.gives(lots, least_of, above + lots)

    def test_500_lots(self):
        random = seeded(1)
        words = [tuple([random.randrange(3) for _ in range(60)]) for _ in range(1500)]
        lots = tuple([((0,), tuple(words[at:at + 3])) for at in range(0, 1500, 3)])
        self.gives(tuple(sorted(lots)), least_of, lots)
        small = ((0,), ((), (), ()))
        self.gives((small,), least_of, lots[1:] + (small,))

    def test_many_lots_against_the_document(self):
        for seed in range(200):
            random = seeded(seed)
            program = some_program(random, 1 + seed % 2, 2, 2, 2, 1)
            lots = list(some_situation(random, program, 30, 3)) * 2
            random.shuffle(lots)
            self.gives(plain_least(lots), least_of, tuple(lots))


class IsClosed(Calls):
    def test_of_the_closed_list(self):
        self.gives(True, is_closed, EXAMPLE, BAD, LAYERS[2])
        self.gives(False, is_closed, EXAMPLE, BAD, LAYERS[1])
        self.gives(False, is_closed, EXAMPLE, BAD, LAYERS[0])

    def test_of_it_without_one_of_its_lots(self):
        for program, situation in ((EXAMPLE, BAD), (TAKER, (((1,), ((),)),))):
            closed = closed_list(program, situation)
            self.gives(True, is_closed, program, situation, closed)
            for at in range(len(closed)):
                self.gives(False, is_closed, program, situation, closed[:at] + closed[at + 1:])

    def test_with_a_lot_put_in(self):
        rows = ((0, ("take", 0, 1), 0), (1, ("take", 0, 0), 2), (2, ("rest",), 2))
        program, situation = (1, 2, ((4, rows),)), (((2,), ((0,),)),)
        closed = (((1,), ((0, 0),)), ((2,), ((0,),)))
        self.gives(closed, closed_list, program, situation)
        for lot, still in (
                (((0,), ((0,),)), True),  # back to what is above itself
                (((3,), ((),)), True),  # back to nothing
                (((2,), ((0, 1),)), True),  # back to what is above lots of the list
                (((1,), ((),)), True),  # back to nothing
                (((2,), ((),)), False)):  # back to a lot that is above none
            self.gives(still, is_closed, program, situation, tuple(sorted(closed + (lot,))))

    def test_of_no_lot(self):
        self.gives(False, is_closed, EXAMPLE, BAD, ())
        self.gives(False, is_closed, (1, 1, ((1, ()),)), (((0,), ((),)),), ())

    def test_of_the_situation_alone(self):
        self.gives(False, is_closed, EXAMPLE, BAD, BAD)
        self.gives(True, is_closed, (1, 1, ((1, ()),)), (((0,), ((),)),), (((0,), ((),)),))
        situation = (((0, 0), ((0,),)), ((0, 0), ((1, 1),)), ((0, 1), ((1,),)))
        self.gives(True, is_closed, (1, 2, ((1, ()), (2, ()))), situation, situation)

    def test_each_lot_of_the_situation_counts(self):
        program = (1, 2, ((3, ()),))
        situation = tuple([((place,), ((1,),)) for place in range(3)])
        for at in range(3):
            rest = situation[:at] + situation[at + 1:]
            self.gives(False, is_closed, program, situation, rest)
            for word, closed in (((), True), ((0,), True), ((1,), True), ((1, 0), False)):
                lots = tuple(sorted(rest + (((at,), (word,)),)))
                self.gives(closed, is_closed, program, situation, lots)

    def test_each_step_of_each_machine_counts(self):
        situation = (((0, 0, 0), ((0,),)),)
        for action in (("take", 0, 0), ("send", 0, 0), ("rest",)):
            for at in range(3):
                machines = [(2, ()), (2, ()), (2, ())]
                machines[at] = (2, ((0, ("rest",), 1), (1, action, 0)))
                program = (1, 1, tuple(machines))
                self.gives(False, is_closed, program, situation, situation)
                self.gives(True, is_closed, program, situation, closed_list(program, situation))

    def test_lots_above_one_another_may_stand_in_it(self):
        lots = (((0, 0), ((),)), ((0, 0), ((0,),)), ((0, 1), ((),)), ((0, 1), ((1, 1),)))
        self.gives(True, is_closed, EXAMPLE, BAD, lots)

    def test_500_lots(self):
        words = [((0,) * one, (0,) * two, (0,) * (30 - one - two))
                 for one in range(31) for two in range(31 - one)]
        lots = tuple(sorted([((0,), row) for row in words] + [((1,), row) for row in words[:4]]))
        self.assertEqual(len(lots), 500)
        program = (3, 2, ((2, ((0, ("take", 0, 1), 0), (0, ("take", 1, 0), 0), (1, ("rest",), 1))),))
        self.gives(True, is_closed, program, lots[:3], lots)
        program = (3, 2, ((2, ((0, ("send", 0, 0), 0),)),))
        self.gives(False, is_closed, program, lots[:3], lots)

    def test_situation_of_25_lots(self):
        situation = tuple([((0, two, three), ((),)) for two in range(5) for three in range(5)])
        program = (1, 1, ((1, ((0, ("take", 0, 0), 0),)), (5, ()), (5, ())))
        self.gives(True, is_closed, program, situation, situation)
        for at in range(25):
            self.gives(False, is_closed, program, situation, situation[:at] + situation[at + 1:])


class Layers(Calls):
    def test_examples_of_the_interface(self):
        self.gives(LAYERS[1], layer, EXAMPLE, BAD, 1)
        self.gives(LAYERS[2], closed_list, EXAMPLE, BAD)

    def test_each_layer(self):
        for k in (0, 1, 2, 3, 4, 60, 400, 499, 500):
            self.gives(LAYERS[min(k, 2)], layer, EXAMPLE, BAD, k)
            self.gives(LAYERS[min(k, 2)], layer, EXAMPLE, BAD, k, tries=3)

    def test_layer_that_is_the_first_one_already(self):
        for k in (0, 1, 2, 500):
            self.gives((((0,), ((0,),)),), layer, (1, 1, ((1, ()),)), (((0,), ((0,),)),), k, tries=1)

    def test_layer_0_has_the_least_lots_of_the_situation_alone(self):
        program = (1, 2, ((2, ((0, ("rest",), 1),)),))
        situation = (((0,), ((0,),)), ((1,), ((0,),)), ((1,), ((1,),)))
        self.gives(situation[:2], layer, program, situation, 0)
        self.gives(situation[:2], layer, program, situation, 0, tries=2)
        self.gives(situation[:2], closed_list, program, situation, tries=2)
        situation = (((1,), ((),)), ((1,), ((0,),)), ((1,), ((0, 1),)))
        self.gives(situation[:1], layer, program, situation, 0, tries=1)
        self.gives((((0,), ((),)), ((1,), ((),))), closed_list, program, situation, tries=2)

    def test_lot_of_the_situation_that_a_later_lot_is_below(self):
        # One step back from the second lot lies a lot that the first one is above.
        program = (1, 2, ((2, ((0, ("rest",), 1),)),))
        situation = (((0,), ((0, 1),)), ((1,), ((1,),)))
        self.gives(situation, layer, program, situation, 0)
        closed = (((0,), ((1,),)), ((1,), ((1,),)))
        for k in (1, 2, 500):
            self.gives(closed, layer, program, situation, k)
        self.gives(closed, closed_list, program, situation, tries=3)
        self.raises(LimitExceeded, {"limit": 2}, closed_list, program, situation, tries=2)

    def test_situations_of_two_and_three_lots(self):
        two = (((0, 0), ((1,),)), ((0, 1), ((),)))
        self.gives(two, layer, EXAMPLE, two, 0)
        self.gives(LAYERS[1], layer, EXAMPLE, two, 1)
        self.gives(LAYERS[2], closed_list, EXAMPLE, two)
        program = (1, 2, ((3, ((0, ("take", 0, 1), 1), (1, ("take", 0, 0), 2), (2, ("send", 0, 0), 1))),))
        three = (((0,), ((0, 0),)), ((1,), ((1, 0),)), ((2,), ((1,),)))
        self.gives(three, layer, program, three, 0)
        one = (((0,), ((0, 0),)), ((1,), ((0, 1),)), ((1,), ((1, 0),)), ((2,), ((1,),)))
        self.gives(one, layer, program, three, 1)
        layers, _ = plain_layers(program, three)
        self.gives(layers[-1], closed_list, program, three)

    def test_situation_of_25_lots(self):
        situation = tuple([((0, two, three), ((0,),)) for two in range(5) for three in range(5)])
        program = (1, 1, ((2, ((0, ("take", 0, 0), 1), (1, ("send", 0, 0), 0))), (5, ()), (5, ())))
        back = tuple([((1,) + places[1:], ((),)) for places, _ in situation])
        self.gives(situation, layer, program, situation, 0, tries=25)
        self.raises(LimitExceeded, {"limit": 24}, layer, program, situation, 0, tries=24)
        self.gives(situation + back, closed_list, program, situation, tries=50)
        self.raises(LimitExceeded, {"limit": 49}, closed_list, program, situation, tries=49)

    def test_what_is_sent_may_be_lost_at_once(self):
        program = (1, 3, ((1, ((0, ("send", 0, 1), 0),)),))
        for word, least in (((1, 1), ()), ((2, 1, 0), (2,)), ((0, 2), (0, 2)), ((2,), (2,)), ((), ())):
            self.gives((((0,), (least,)),), closed_list, program, (((0,), (word,)),))

    def test_test_is_no_way_to_a_word_that_is_not_empty(self):
        program = (1, 1, ((2, ((0, ("test", 0), 1),)),))
        self.gives((((1,), ((0,),)),), closed_list, program, (((1,), ((0,),)),))
        self.gives((((0,), ((),)), ((1,), ((),))), closed_list, program, (((1,), ((),)),))

    def test_many_programs_against_the_document(self):
        shapes = ((1, 1, 2, 3), (1, 2, 2, 3), (2, 2, 1, 4), (2, 3, 2, 3), (3, 3, 3, 5), (1, 3, 3, 2))
        for seed in range(180):
            random = seeded(seed + 77)
            lanes, letters, machines, places = shapes[seed % len(shapes)]
            program = some_program(random, lanes, letters, machines, places, 8)
            situation = some_situation(random, program, 3, 3)
            layers, taken = plain_layers(program, situation)
            self.check_layers(program, situation, layers, taken)

    def check_layers(self, program, situation, layers, taken):
        for k, lots in enumerate(layers):
            for tries in (1, max(taken[k] - 1, 1), taken[k], taken[k] + 1, 400):
                self.due(lots, taken[k] <= tries, tries, layer, program, situation, k)
        if layers[-1:] == layers[-2:-1]:
            for tries in (1, max(taken[-1] - 1, 1), taken[-1], 400):
                self.due(layers[-1], taken[-1] <= tries, tries, closed_list, program, situation)
            self.gives(True, is_closed, program, situation, layers[-1])
            self.gives(layers[-1], layer, program, situation, 500)
            for before in layers[:-2]:
                self.gives(False, is_closed, program, situation, before)

    def due(self, lots, within, tries, function, *given):
        if within:
            self.gives(lots, function, *given, tries=tries)
        else:
            self.raises(LimitExceeded, {"limit": tries}, function, *given, tries=tries)


class Limit(Calls):
    def exceeds(self, limit, function, *given, **named):
        self.raises(LimitExceeded, {"limit": limit}, function, *given, **named)

    def test_tries_is_passed_by_its_name_alone(self):
        with self.assertRaises(TypeError):
            closed_list(EXAMPLE, BAD, 400)
        with self.assertRaises(TypeError):
            layer(EXAMPLE, BAD, 1, 400)

    def test_as_many_lots_as_tries_and_one_more(self):
        # The lot that belongs to the layer 1 alone is one of the three.
        self.gives(LAYERS[2], closed_list, EXAMPLE, BAD, tries=3)
        self.exceeds(2, closed_list, EXAMPLE, BAD, tries=2)
        self.exceeds(1, closed_list, EXAMPLE, BAD, tries=1)
        self.gives(LAYERS[2], layer, EXAMPLE, BAD, 2, tries=3)
        self.exceeds(2, layer, EXAMPLE, BAD, 2, tries=2)
        self.exceeds(2, layer, EXAMPLE, BAD, 500, tries=2)

    def test_one_try(self):
        self.gives((((0,), ((),)),), closed_list, (1, 1, ((1, ()),)), (((0,), ((),)),), tries=1)
        self.gives(BAD, layer, EXAMPLE, BAD, 0, tries=1)
        self.exceeds(1, layer, EXAMPLE, BAD, 1, tries=1)
        two = (((0, 0), ((1,),)), ((0, 1), ((),)))
        self.exceeds(1, layer, EXAMPLE, two, 0, tries=1)
        self.exceeds(1, closed_list, EXAMPLE, two, tries=1)

    def test_no_error_where_only_a_later_layer_passes_the_limit(self):
        for k in range(3):
            self.gives(LAYERS[k], layer, EXAMPLE, BAD, k, tries=k + 1)
            if k > 0:
                self.exceeds(k, layer, EXAMPLE, BAD, k, tries=k)
        lot = sent(3, 3)
        self.gives((lot,), layer, SENDER, (lot,), 0, tries=1)
        self.gives((sent(2, 3), sent(3, 2)), layer, SENDER, (lot,), 1, tries=3)
        self.exceeds(2, layer, SENDER, (lot,), 1, tries=2)
        self.gives((sent(1, 3), sent(2, 2), sent(3, 1)), layer, SENDER, (lot,), 2, tries=6)
        self.exceeds(5, layer, SENDER, (lot,), 2, tries=5)

    def test_lots_that_belong_to_a_layer_and_to_no_later_one_count(self):
        for one, two, three in ((0, 0, 0), (5, 0, 0), (2, 3, 0), (1, 2, 4)):
            lot, many = sent(one, two, three), (one + 1) * (two + 1) * (three + 1)
            self.gives((sent(0),), closed_list, SENDER, (lot,), tries=many)
            if many > 1:
                self.exceeds(many - 1, closed_list, SENDER, (lot,), tries=many - 1)

    def test_a_lot_that_belongs_to_no_layer_does_not_count(self):
        program = (1, 1, ((2, ((0, ("rest",), 1), (0, ("take", 0, 0), 1))),))
        situation = (((1,), ((),)),)
        self.gives((((0,), ((),)), ((1,), ((),))), closed_list, program, situation, tries=2)
        self.exceeds(1, closed_list, program, situation, tries=1)
        self.gives((((0,), ((),)),), closed_list, (1, 1, ((1, ((0, ("take", 0, 0), 0),)),)),
                   (((0,), ((),)),), tries=1)

    def test_lots_of_the_situation_that_are_above_another_one_do_not_count(self):
        situation = (((0,), ((),)), ((0,), ((0,),)), ((0,), ((0, 0),)))
        self.gives(situation[:1], closed_list, (1, 1, ((1, ()),)), situation, tries=1)
        self.gives(situation[:1], layer, (1, 1, ((1, ()),)), situation, 0, tries=1)

    def test_400_lots_and_401(self):
        many = sent(19, 19)
        self.gives((sent(0),), closed_list, SENDER, (many,))
        self.gives((sent(0),), closed_list, SENDER, (many,), tries=400)
        self.gives((sent(0),), layer, SENDER, (many,), 38)
        self.gives((sent(0),), layer, SENDER, (many,), 500)
        self.exceeds(399, closed_list, SENDER, (many,), tries=399)
        self.exceeds(399, layer, SENDER, (many,), 38, tries=399)
        self.assertEqual(len(layer(SENDER, (many,), 37, tries=399)), 2)
        one_more = (many, ((1,), ((), (), ())))
        self.exceeds(400, closed_list, SENDER, one_more)
        self.exceeds(400, closed_list, SENDER, one_more, tries=400)
        self.exceeds(400, layer, SENDER, one_more, 38)
        self.exceeds(400, layer, SENDER, one_more, 500)
        self.assertEqual(len(layer(SENDER, one_more, 37)), 3)

    def test_far_more_lots_than_tries(self):
        self.exceeds(400, closed_list, SENDER, (sent(60, 60, 60),))
        self.exceeds(400, layer, SENDER, (sent(60, 60, 60),), 60)
        self.assertEqual(len(layer(SENDER, (sent(60, 60, 60),), 11)), 78)
        steps = tuple(sorted([(at % 5, ("take", at % 3, at % 2), 0) for at in range(8)]))
        program, lot = (3, 2, ((5, steps), (5, steps), (5, steps))), ((0, 0, 0), ((1, 0), (0,), ()))
        self.exceeds(400, closed_list, program, (lot,))
        self.exceeds(400, layer, program, (lot,), 500)
        self.exceeds(1, closed_list, program, (lot,), tries=1)

    def test_word_of_60_letters_and_one_of_61(self):
        for word, other in (((0,) * 59, (0,) * 60), ((0,) * 60, (0,) * 61)):
            situation = (((1,), (word,)),)
            self.gives(situation, layer, TAKER, situation, 0)
            if len(other) == 60:
                self.gives((((0,), (other,)),) + situation, layer, TAKER, situation, 1)
                self.gives((((0,), (other,)),) + situation, closed_list, TAKER, situation)
            else:
                self.exceeds(400, layer, TAKER, situation, 1)
                self.exceeds(400, layer, TAKER, situation, 500)
                self.exceeds(400, closed_list, TAKER, situation)
                self.exceeds(7, closed_list, TAKER, situation, tries=7)

    def test_long_word_in_each_lane(self):
        for lane in range(3):
            program = (3, 2, ((2, ((0, ("take", lane, 1), 1),)),))
            for many in (59, 60):
                words = [(1,), (), (0,)]
                words[lane] = (0,) * many
                situation = (((1,), tuple(words)),)
                words[lane] = (1,) + (0,) * many
                if many == 59:
                    closed = (((0,), tuple(words)),) + situation
                    self.gives(closed, closed_list, program, situation)
                else:
                    self.exceeds(400, closed_list, program, situation)

    def test_long_word_of_a_lot_that_belongs_to_no_layer(self):
        rows = ((0, ("rest",), 1), (0, ("take", 0, 0), 1))
        situation = (((1,), ((0,) * 60,)),)
        self.gives((((0,), ((0,) * 60,)),) + situation, closed_list, (1, 1, ((2, rows),)), situation, tries=2)
        self.exceeds(2, closed_list, (1, 1, ((2, rows[1:]),)), situation, tries=2)
        program = (1, 1, ((1, ((0, ("take", 0, 0), 0),)),))
        self.gives((((0,), ((0,) * 60,)),), closed_list, program, (((0,), ((0,) * 60,)),))

    def test_long_word_only_beyond_the_layer(self):
        program = (1, 1, ((3, ((0, ("take", 0, 0), 1), (1, ("take", 0, 0), 2))),))
        situation = (((2,), ((0,) * 59,)),)
        one = (((1,), ((0,) * 60,)),) + situation
        self.gives(situation, layer, program, situation, 0)
        self.gives(one, layer, program, situation, 1)
        self.exceeds(400, layer, program, situation, 2)
        self.exceeds(400, closed_list, program, situation)

    def test_lot_with_a_long_word_that_a_later_layer_leaves_out_counts(self):
        # A lot with 61 letters belongs to the layer 1, one with none that it is above to the layer 2.
        rows = ((0, ("rest",), 2), (0, ("take", 0, 0), 1), (2, ("send", 0, 0), 1))
        program = (1, 1, ((3, rows + ((2, ("send", 0, 0), 2),)),))
        situation = (((1,), ((0,) * 60,)),)
        self.gives(situation, layer, program, situation, 0)
        self.exceeds(400, layer, program, situation, 1)
        shorter = (((1,), ((0,) * 59,)),)
        layers, taken = plain_layers(program, shorter, 400)
        self.assertTrue(lies_in(((0,), ((0,) * 60,)), layers[1]))
        self.gives((((0,), ((),)), ((1,), ((0,) * 59,)), ((2,), ((),))), closed_list, program, shorter,
                   tries=taken[-1])
        self.exceeds(taken[-1] - 1, closed_list, program, shorter, tries=taken[-1] - 1)

    def test_refused_call_changes_nothing(self):
        self.exceeds(2, closed_list, EXAMPLE, BAD, tries=2)
        self.gives(LAYERS[2], closed_list, EXAMPLE, BAD)
        self.assertEqual(repr(BAD), "(((0, 1), ((),)),)")


if __name__ == "__main__":
    unittest.main()

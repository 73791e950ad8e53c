"""What takes any value is given what calls returned, whole, changed, and where it does not belong."""

import unittest

from calls import Calls
from losinglanes.checker import first_fault
from losinglanes.claims import decide, require_claim
from losinglanes.closing import closed_list
from losinglanes.errors import (
    CannotDo, CannotLose, CannotWear, InvalidClaim, InvalidGoals, InvalidLot, InvalidOptions, InvalidProgram,
    InvalidSituation, NothingDone, Refused, UnknownGoal)
from losinglanes.idle import situation_of
from losinglanes.lives import Live
from losinglanes.mends import choices, require_options
from losinglanes.programs import require_lot, require_program, require_situation
from losinglanes.reaching import shortest_run
from losinglanes.texts import format_program
from plain_checker import plain_fault, right_lot, right_option, right_program, right_situation, wrong_claim_part
from samples import nested
from spoiling import spoil
from trials import seeded

SEND, TAKE = (0, ("send", 0, 0), 0), (0, ("take", 0, 0), 1)
PROGRAM = (1, 2, ((1, (SEND,)), (2, (TAKE,))))
START, BAD = ((0, 0), ((),)), (((0, 1), ((),)),)
OPTIONS = (("drop", 0, SEND, 3), ("drop", 1, TAKE, 2), ("put", 1, (0, ("rest",), 0), 1))
CLAIM = ("mend", PROGRAM, (("never", BAD), ("can", (START,))), OPTIONS, 2)


def live_lot():
    live = Live(PROGRAM, (BAD,))
    live += (("do", 0, 0), ("do", 0, 0), ("lose", 0, 0))
    return live


def returned():
    """Things that calls returned, of each kind and of great size and depth."""
    live = live_lot()
    deep = decide(CLAIM)
    for _ in range(60):
        deep = (deep, CLAIM, deep)
    errors = []
    for call in (lambda: live.do(1, 5), lambda: require_claim(None)):
        try:
            call()
        except (CannotDo, InvalidClaim) as error:
            errors.append(error)
    return [
        live, live.twin(), live.deeds(), live.entries(), live.lot(), live.open_goals(), live.way_to(0), PROGRAM, START,
        BAD, CLAIM, OPTIONS, decide(CLAIM), decide(("never", PROGRAM, START, BAD)), closed_list(PROGRAM, BAD),
        choices(PROGRAM, OPTIONS), list(choices(PROGRAM, OPTIONS)), situation_of(PROGRAM, 0, 0), False, None, 2, (), deep,
        shortest_run(PROGRAM, START, (((0, 0), ((0,) * 60,)),)), format_program(PROGRAM), Live, *errors]


class Returned(Calls):
    def is_refused(self, errors, call, *given):
        with self.assertRaises(errors):
            call(*given)

    def test_whole_where_they_do_not_belong(self):
        live = live_lot()
        for value in returned():
            if not right(value, right_program):
                self.is_refused(InvalidProgram, require_program, value)
                self.is_refused(InvalidProgram, Live, value)
            if not right(value, lambda one: right_lot(PROGRAM, one)):
                self.is_refused(InvalidLot, require_lot, PROGRAM, value)
            if not right(value, lambda one: right_situation(PROGRAM, one)):
                self.is_refused(InvalidSituation, require_situation, PROGRAM, value)
                self.is_refused(InvalidSituation, live.is_in, value)
                self.is_refused(InvalidGoals, Live, PROGRAM, (value,))
            if value is not OPTIONS:
                self.is_refused(InvalidOptions, require_options, PROGRAM, value)
            if value != CLAIM:
                self.is_refused(InvalidClaim, require_claim, value)
                self.is_refused(InvalidClaim, decide, value)
            if value != ():
                self.is_refused(InvalidGoals, Live, PROGRAM, value)
            self.told(live == value, live.deeds() == value.deeds() if isinstance(value, Live) else False)

    def test_whole_as_arguments_of_a_live_lot(self):
        live = live_lot()
        for value in returned():
            self.is_refused(CannotDo, live.do, value, 0)
            self.is_refused(CannotDo, live.do, 0, value)
            self.is_refused(CannotLose, live.lose, value, 0)
            self.is_refused(CannotLose, live.lose, 0, value)
            self.is_refused(CannotWear, live.wear, value, 0)
            self.is_refused(CannotWear, live.wear, 0, value)
            for method in (live.way_to, live.keep, live.let_go):
                with self.assertRaises(UnknownGoal) as caught:
                    method(value)
                self.assertIs(caught.exception.goal, value)
            if value != 2:
                self.is_refused(NothingDone, live.back_to, value)
            if value != () and value != live.deeds():
                with self.assertRaises(Refused) as caught:
                    live += value
                self.assertEqual((caught.exception.index, caught.exception.reason), (-1, None))
            for deed, reason in (("do", "CannotDo"), ("lose", "CannotLose"), ("wear", "CannotWear")):
                for row in ((deed, value, 0), (deed, 0, value)):
                    with self.assertRaises(Refused) as caught:
                        live += (("do", 0, 0), row)
                    self.assertEqual((caught.exception.index, caught.exception.reason), (1, reason))
            with self.assertRaises(Refused) as caught:
                live += ((value, 0, 0),)
            self.assertEqual((caught.exception.index, caught.exception.reason), (-1, None))
            self.told(live.deeds(), (("do", 0, 0), ("do", 0, 0), ("lose", 0, 0)))

    def test_whole_as_parts_of_certificates(self):
        rows = decide(("never", PROGRAM, START, (((0, 0), ((1,),)),)))
        self.assertIsNone(first_fault(rows))
        for value in returned():
            self.assertEqual(first_fault((value, rows[1], rows[2])), ("paper",))
            if value != CLAIM:
                self.assertEqual(first_fault((rows[0], value, rows[2])), ("claim",))
            if value != ():
                self.assertEqual(first_fault((rows[0], rows[1], value)), ("paper",))
                self.assertEqual(first_fault((rows[0], rows[1], (value,))), ("paper",))
            for triple in ((value, 0, (0, None)), (START, value, (0, None)), (START, 0, (value, value))):
                if value is not None and not right(value, lambda one: right_lot(PROGRAM, one)):
                    self.assertEqual(first_fault((rows[0], rows[1], (triple,))), ("paper",))
            if not (type(value) is tuple and len(value) == 3):
                self.assertEqual(first_fault(value), ("form",))

    def test_changed(self):
        """Parts exchanged, left out, turned round, put in, made greater or less, against the document."""
        for seed in range(3000):
            random = seeded(seed + 50)
            value = random.choice((PROGRAM, START, BAD, CLAIM, OPTIONS, decide(CLAIM)))
            for _ in range(random.choice((1, 1, 2, 4))):
                value = spoil(random, value)
            self.same(value, InvalidProgram, require_program, right_program(value), value)
            self.same(value, InvalidLot, require_lot, right_lot(PROGRAM, value), PROGRAM, value)
            self.same(value, InvalidSituation, require_situation, right_situation(PROGRAM, value), PROGRAM, value)
            options = type(value) is tuple and 1 <= len(value) <= 3
            options = options and all(right_option(PROGRAM, one) for one in value)
            self.same(value, InvalidOptions, require_options, options, PROGRAM, value)
            self.same_claim(value)
            self.assertEqual(repr(first_fault(value)), repr(plain_fault(value)))

    def same(self, value, error, function, right_one, *given):
        if right_one:
            self.assertIs(function(*given), value)
        else:
            self.is_refused(error, function, *given)

    def same_claim(self, value):
        part = wrong_claim_part(value)
        if part is None:
            self.assertIs(require_claim(value), value)
            return
        with self.assertRaises(InvalidClaim) as caught:
            require_claim(value)
        self.assertEqual(caught.exception.part, part)

    def test_great_and_deep_values(self):
        values = [nested(900, lambda value: (value,)), nested(900, lambda value: [value]), (0,) * 3000000,
                  "a" * 1000000, 10 ** 3000, -10 ** 3000, {number: () for number in range(1000)}]
        live = live_lot()
        for value in values:
            self.assertIn(first_fault(value), (("form",),))
            self.assertEqual(first_fault(("shown", value, value)), ("claim",))
            self.assertEqual(first_fault((value, ("never", PROGRAM, START, BAD), value)), ("paper",))
            self.assertEqual(first_fault(("shown", ("never", PROGRAM, START, BAD), value)), ("paper",))
            self.is_refused(InvalidClaim, require_claim, value)
            self.is_refused(InvalidClaim, require_claim, ("never", PROGRAM, START, value))
            self.is_refused(InvalidOptions, require_options, PROGRAM, (("drop", 0, value, value),))
            self.is_refused(InvalidProgram, Live, value)
            self.is_refused(InvalidGoals, Live, PROGRAM, value)
            self.is_refused(InvalidSituation, live.is_in, value)
            self.is_refused(CannotDo, live.do, value, value)
            self.is_refused(UnknownGoal, live.way_to, value)
            self.is_refused(NothingDone, live.back_to, value)
            self.told(live == value, False)


def right(value, is_right):
    return type(value) is tuple and is_right(value)


if __name__ == "__main__":
    unittest.main()

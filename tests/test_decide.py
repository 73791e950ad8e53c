import unittest

from calls import Calls
from losinglanes import claims
from losinglanes.checker import first_fault
from losinglanes.claims import decide
from losinglanes.errors import InvalidClaim, LimitExceeded
from losinglanes.idle import is_idle
from losinglanes.mends import cheapest_mend
from losinglanes.reaching import can_come
from plain_checker import is_so, plain_fault

SEND, TAKE = (0, ("send", 0, 0), 0), (0, ("take", 0, 0), 1)
PROGRAM = (1, 2, ((1, (SEND,)), (2, (TAKE,))))
START, BAD, GREATER = ((0, 0), ((),)), (((0, 1), ((),)),), (((0, 0), ((1,),)),)
DEAF = (1, 2, ((1, (SEND,)), (2, ((0, ("take", 0, 1), 1),))))
OPTIONS = (("drop", 0, SEND, 3), ("drop", 1, TAKE, 2))
NEVER_BAD, CAN_GREATER = ("never", BAD), ("can", GREATER)

# A lot of SENDER with words of one and two letters: (one + 1) * (two + 1) lots lead to it.
SENDER = (3, 1, ((2, ((0, ("send", 0, 0), 0), (0, ("send", 1, 0), 0), (0, ("send", 2, 0), 0))),))
SILENT = ((1,), ((0,) * 60,) * 3)


def sent(one, two=0):
    return (0,), ((0,) * one, (0,) * two, ())


class Decides(Calls):
    def decides(self, verdict, claim, paper=None, **named):
        before = repr(claim)
        with self.subTest(claim=str(claim)[:300]):
            found = decide(claim, **named)
            self.assertEqual(repr(claim), before)
            self.plain(found)
            self.assertEqual(len(found), 3)
            self.assertEqual(found[0], verdict)
            self.assertEqual(repr(found[1]), before)
            if paper is not None:
                self.assertEqual(repr(found[2]), repr(paper))
            self.told(first_fault(found), None)
            self.assertIsNone(plain_fault(found))
            self.assertEqual(verdict == "shown", is_so(claim))
            return found[2]

    def test_function_stands_in_its_file(self):
        self.stands_in(claims, decide, "(claim, *, tries=400)")
        self.assertEqual(decide(tries=3, claim=("never", PROGRAM, START, BAD))[0], "broken")
        with self.assertRaises(TypeError):
            decide(("never", PROGRAM, START, BAD), 400)

    def test_example_of_the_interface(self):
        self.decides("broken", ("distance", PROGRAM, START, BAD, 1))

    def test_never(self):
        self.decides("broken", ("never", PROGRAM, START, BAD), ((((),), 0, 0), (((0,),), 1, 0)))
        self.decides("broken", ("never", PROGRAM, BAD[0], BAD), ())
        self.decides("shown", ("never", PROGRAM, START, GREATER), ((GREATER[0], 0, (0, None)),))
        self.decides("shown", ("never", PROGRAM, ((0, 1), ((0,) * 60,)), (START,)))
        self.decides("shown", ("never", DEAF, START, (((0, 0), ((0, 1),)), ((0, 1), ((),)))))
        self.decides("shown", ("never", SENDER, SILENT, (sent(19, 19),)))

    def test_distance_that_is_an_integer(self):
        for many in (0, 1, 2, 3, 10, 59, 60):
            paper = self.decides("shown", ("distance", PROGRAM, START, (((0, 0), ((0,) * many,)),), many))
            self.assertEqual(len(paper[0]), many)
            self.assertEqual({rank for _, rank, _ in paper[1]}, set(range(many)))
        self.decides("shown", ("distance", PROGRAM, START, BAD, 2))
        self.decides("shown", ("distance", PROGRAM, BAD[0], BAD, 0), ((), ()))
        self.decides("shown", ("distance", SENDER, sent(0), (sent(19, 19),), 38))

    def test_distance_that_is_none(self):
        self.decides("shown", ("distance", PROGRAM, START, GREATER, None), ((GREATER[0], 0, (0, None)),))
        self.decides("shown", ("distance", SENDER, SILENT, (sent(19, 19),), None))

    def test_distance_that_is_less(self):
        for n in (3, 4, 399, 400, None):
            word, run = self.decides("broken", ("distance", PROGRAM, START, BAD, n))
            self.assertEqual((word, len(run)), ("nearer", 2))
        for n in (1, 400, None):
            self.decides("broken", ("distance", PROGRAM, BAD[0], BAD, n), ("nearer", ()))
        self.decides("broken", ("distance", SENDER, sent(0), (sent(19, 19),), 39))

    def test_distance_that_is_greater(self):
        for many in (1, 2, 5, 30, 60):
            for n in {0, 1, many - 1}:
                if n < many:
                    claim = ("distance", PROGRAM, START, (((0, 0), ((0,) * many,)),), n)
                    word, rows = self.decides("broken", claim)
                    self.assertEqual((word, {rank for _, rank, _ in rows}), ("farther", set(range(n + 1))))
        self.decides("broken", ("distance", SENDER, sent(0), (sent(19, 19),), 37))

    def test_distance_that_is_an_integer_where_it_cannot_come_about(self):
        for n in (0, 1, 2, 399, 400):
            self.decides("broken", ("distance", PROGRAM, START, GREATER, n))
            word, rows = self.decides("broken", ("distance", SENDER, SILENT, (sent(3, 3),), n))
            self.assertEqual((word, {rank for _, rank, _ in rows}), ("farther", set(range(min(n, 6) + 1))))

    def test_idle(self):
        self.decides("shown", ("idle", DEAF, 1, 0), ((((0, 0), ((1,),)), 0, (0, None)),))
        self.decides("broken", ("idle", PROGRAM, 1, 0), ((((),), 0, 0), (((0,),), 1, 0)))
        self.decides("broken", ("idle", PROGRAM, 0, 0), ((((),), 0, 0),))
        program = (1, 1, ((3, ((0, ("send", 0, 0), 1), (1, ("test", 0), 0), (2, ("rest",), 2))),))
        self.decides("broken", ("idle", program, 0, 0), ((((),), 0, 0),))
        self.decides("broken", ("idle", program, 0, 1), ((((),), 0, 0), (((),), 0, 1)))
        self.decides("shown", ("idle", program, 0, 2))

    def test_idle_with_25_lots(self):
        program = (1, 1, ((5, ()), (2, ((0, ("rest",), 0), (1, ("rest",), 0))), (5, ())))
        paper = self.decides("shown", ("idle", program, 1, 1))
        self.assertEqual(len(paper), 25)
        self.decides("broken", ("idle", program, 1, 0), ((((),), 1, 0),))

    def test_mend_with_an_integer(self):
        self.decides("shown", ("mend", PROGRAM, (NEVER_BAD,), OPTIONS, 2), (
            (1,), (((BAD[0], 0, (0,)),),), ((0, ((((),), 0, 0), (((0,),), 1, 0))),)))
        self.decides("shown", ("mend", PROGRAM, (("can", BAD), ("never", GREATER)), OPTIONS, 0), (
            (), (((((),), 0, 0), (((0,),), 1, 0)), ((GREATER[0], 0, (0, None)),)), ()))
        self.decides("shown", ("mend", PROGRAM, (NEVER_BAD, ("never", (((0, 0), ((0,),)),))), OPTIONS, 3))
        put = ("put", 0, (0, ("send", 0, 1), 0), 99)
        self.decides("shown", ("mend", PROGRAM, (NEVER_BAD, CAN_GREATER), OPTIONS + (put,), 101))

    def test_mend_that_is_none(self):
        paper = self.decides("shown", ("mend", PROGRAM, (NEVER_BAD, CAN_GREATER), OPTIONS, None))
        self.assertEqual([at for at, _ in paper], [0, 1, 1, 1])
        self.decides("shown", ("mend", PROGRAM, (("never", (START,)),), OPTIONS, None),
                     ((0, ()), (0, ()), (0, ()), (0, ())))

    def test_mend_that_costs_less(self):
        for n in (3, 4, 5, 300, None):
            paper = self.decides("broken", ("mend", PROGRAM, (NEVER_BAD,), OPTIONS, n))
            self.assertEqual(paper[:2], ("less", (1,)))
            self.decides("broken", ("mend", PROGRAM, (("can", BAD),), OPTIONS, n))
        self.decides("broken", ("mend", PROGRAM, (("can", BAD),), OPTIONS, 1))

    def test_mend_that_costs_more(self):
        for n, many in ((0, 1), (1, 1)):
            word, breaks = self.decides("broken", ("mend", PROGRAM, (NEVER_BAD,), OPTIONS, n))
            self.assertEqual((word, len(breaks)), ("more", many))
        for n, many in ((0, 1), (2, 2), (3, 3), (4, 3), (5, 4), (300, 4)):
            word, breaks = self.decides("broken", ("mend", PROGRAM, (NEVER_BAD, CAN_GREATER), OPTIONS, n))
            self.assertEqual((word, len(breaks)), ("more", many))

    def test_mend_that_costs_more_than_a_choice_of_the_same_cost(self):
        options = (("drop", 0, SEND, 2), ("drop", 1, TAKE, 2))
        wishes = (NEVER_BAD, ("can", (((0, 0), ((0,),)),)))
        paper = self.decides("shown", ("mend", PROGRAM, wishes, options, 2))
        self.assertEqual((paper[0], len(paper[2])), ((1,), 1))
        self.decides("broken", ("mend", PROGRAM, wishes, options, 4))

    def test_claims_that_are_none(self):
        for claim, part in (
                (None, "kind"), ((), "kind"), (["never", PROGRAM, START, BAD], "kind"), (("idle", PROGRAM, 1), "kind"),
                (("never", None, START, BAD), "program"), (("never", PROGRAM, BAD, START), "lot"),
                (("distance", PROGRAM, START, START, 1), "situation"), (("distance", PROGRAM, START, BAD, 401), "n"),
                (("distance", PROGRAM, START, BAD, True), "n"), (("idle", PROGRAM, 2, 0), "machine"),
                (("idle", PROGRAM, 0, 1), "index"), (("mend", PROGRAM, (), OPTIONS, 2), "wishes"),
                (("mend", PROGRAM, (NEVER_BAD,), (), 2), "options"),
                (("mend", PROGRAM, (NEVER_BAD,), OPTIONS, 301), "n")):
            self.raises(InvalidClaim, {"part": part}, decide, claim)
            self.raises(InvalidClaim, {"part": part}, decide, claim, tries=1)


class Limits(Calls):
    """decide raises LimitExceeded if and only if another function does."""

    def same_limit(self, claim, needed, function, *given):
        for tries in (needed, needed + 1, 400):
            function(*given, tries=min(tries, 400))
            self.assertIsNone(first_fault(decide(claim, tries=min(tries, 400))))
        for tries in {1, needed // 2, needed - 1} - {0}:
            if tries < needed:
                self.raises(LimitExceeded, {"limit": tries}, function, *given, tries=tries)
                self.raises(LimitExceeded, {"limit": tries}, decide, claim, tries=tries)

    def test_never(self):
        for lot, needed in ((sent(3, 3), 1), (sent(2, 3), 3), (sent(1, 1), 13), (sent(0), 16), (SILENT, 16)):
            given = (SENDER, lot, (sent(3, 3),))
            self.same_limit(("never",) + given, needed, can_come, *given)
        self.same_limit(("never", SENDER, SILENT, (sent(19, 19),)), 400, can_come, SENDER, SILENT, (sent(19, 19),))

    def test_distance_whatever_n_is(self):
        for lot, needed in ((sent(3, 3), 1), (sent(2, 3), 3), (sent(1, 1), 13), (sent(0), 16), (SILENT, 16)):
            for n in (None, 0, 1, 2, 4, 6, 7, 400):
                given = (SENDER, lot, (sent(3, 3),))
                self.same_limit(("distance",) + given + (n,), needed, can_come, *given)

    def test_idle(self):
        program = (1, 1, ((3, ((0, ("rest",), 1), (1, ("rest",), 2), (2, ("rest",), 2))), (2, ())))
        for index, needed in ((0, 2), (1, 4), (2, 6)):
            self.same_limit(("idle", program, 0, index), needed, is_idle, program, 0, index)
        program = (1, 1, ((5, ()), (2, ((0, ("rest",), 0), (1, ("rest",), 0))), (5, ())))
        self.same_limit(("idle", program, 1, 1), 25, is_idle, program, 1, 1)

    def test_mend_whatever_n_is(self):
        drop = ("drop", 0, (0, ("send", 1, 0), 0), 1)
        near, far, further = (sent(1),), (sent(3, 3),), (sent(4, 4),)
        for wishes, needed in (
                ((("can", near), ("can", far), ("can", further)), 25), ((("can", near), ("can", far)), 16),
                ((("never", near), ("can", far), ("can", further)), 2),
                ((("can", near), ("never", far), ("never", further)), 16)):
            for n in (None, 0, 1, 2, 300):
                claim = ("mend", SENDER, wishes, (drop,), n)
                self.same_limit(claim, needed, cheapest_mend, SENDER, wishes, (drop,))

    def test_more_than_400_lots(self):
        situation = (sent(19, 20),)
        drop = ("drop", 0, (0, ("send", 1, 0), 0), 1)
        for claim in (
                ("never", SENDER, sent(0), situation), ("distance", SENDER, SILENT, situation, None),
                ("distance", SENDER, sent(0), situation, 0), ("mend", SENDER, (("can", situation),), (drop,), 0)):
            self.raises(LimitExceeded, {"limit": 400}, decide, claim)
        self.raises(LimitExceeded, {"limit": 7}, decide, ("never", SENDER, sent(0), situation), tries=7)

    def test_words_of_61_letters(self):
        program = (1, 1, ((3, ((0, ("take", 0, 0), 1), (1, ("rest",), 2))),))
        situation = (((2,), ((0,) * 60,)),)
        for lot in (((2,), ((0,) * 60,)), ((1,), ((0,) * 60,))):
            self.assertIsNone(first_fault(decide(("never", program, lot, situation))))
        self.raises(LimitExceeded, {"limit": 400}, decide, ("never", program, ((0,), ((0,) * 60,)), situation))
        self.raises(LimitExceeded, {"limit": 400}, decide, ("distance", program, ((1,), ((),)), situation, 0))


if __name__ == "__main__":
    unittest.main()

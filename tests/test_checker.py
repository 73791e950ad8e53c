import unittest

from calls import Calls
from losinglanes import checker
from losinglanes.checker import first_fault
from losinglanes.claims import decide
from plain_checker import plain_fault
from samples import OTHER_KINDS

SEND, TAKE = (0, ("send", 0, 0), 0), (0, ("take", 0, 0), 1)
PROGRAM = (1, 2, ((1, (SEND,)), (2, (TAKE,))))
START, BAD, GREATER = ((0, 0), ((),)), (((0, 1), ((),)),), (((0, 0), ((1,),)),)
RUN = ((((),), 0, 0), (((0,),), 1, 0))

# What never comes about: lists of one lot and of more, which need not be least ones.
G0, G1, G2 = GREATER[0], ((0, 0), ((1, 1),)), ((0, 1), ((1,),))
ONE = ((G0, 0, (0, None)),)
TWO = ((G0, 0, (0, None)), (G2, 0, (1, 0)))
THREE = ((G0, 0, (0, None)), (G1, 0, (0, None)), (G2, 0, (2, 0)))
NEVER = ("never", PROGRAM, START, GREATER)
NEVER_BAD = ("never", PROGRAM, START, BAD)

# One machine that rests from place to place; its last place is four entries away.
CHAIN = (1, 1, ((5, tuple([(place, ("rest",), place + 1) for place in range(4)])),))
LAST, FIRST = (((4,), ((),)),), ((0,), ((),))
STEPS = tuple([(((),), 0, index) for index in range(4)])


def place(at):
    return (at,), ((),)


def chain_list(*ranks):
    """A list of CHAIN's last places, as many as there are ranks, each place led to by the one before."""
    lots = range(5 - len(ranks), 5)
    rows = []
    for at, (lot, rank) in enumerate(zip(lots, ranks)):
        targets = [None] * 4
        if at > 0:
            targets[lot - 1] = at - 1
        rows.append((place(lot), rank, tuple(targets)))
    return tuple(rows)


class Checks(Calls):
    def told_fault(self, fault, certificate):
        self.gives(fault, first_fault, certificate)
        self.assertEqual(repr(plain_fault(certificate)), repr(fault))

    def fault(self, fault, verdict, claim, paper):
        self.told_fault(fault, (verdict, claim, paper))

    def right(self, verdict, claim, paper):
        self.fault(None, verdict, claim, paper)


class Forms(Checks):
    def test_function_stands_in_its_file(self):
        self.stands_in(checker, first_fault, "(certificate)")
        self.assertIsNone(first_fault(certificate=("shown", NEVER, ONE)))

    def test_example_of_the_interface(self):
        claim = ("distance", PROGRAM, START, BAD, 1)
        rows = ((((0, 0), ((0,),)), 1, (None, None)), (((0, 1), ((),)), 0, (1, 0)))
        self.right("broken", claim, ("farther", rows))
        self.fault(("misses",), "broken", claim, ("nearer", ()))

    def test_no_triple(self):
        whole = ("shown", NEVER, ONE)
        for value in (
                None, (), whole[:1], whole[:2], whole + (None,), whole + whole, list(whole), dict(enumerate(whole)),
                "abc", 3, True, {}):
            self.told_fault(("form",), value)
        for value in OTHER_KINDS:
            if type(value) is not tuple or len(value) != 3:
                self.assertEqual(first_fault(value), ("form",))

    def test_second_part_is_no_claim(self):
        for claim in (
                None, (), NEVER[:3], NEVER + (1,), list(NEVER), ("ever",) + NEVER[1:], NEVER[:3] + (START,),
                ("distance",) + NEVER[1:] + (401,), ("distance",) + NEVER[1:] + (True,), ("idle", PROGRAM, 2, 0),
                ("idle", PROGRAM, 0, 1), ("mend", PROGRAM, (), (), 0), NEVER[:3] + ((((0, 0), ((0,) * 61,)),),)):
            self.fault(("claim",), "shown", claim, ONE)
            self.fault(("claim",), None, claim, None)
        for value in OTHER_KINDS:
            self.assertEqual(first_fault(("shown", value, ONE)), ("claim",))

    def test_verdict_that_is_none(self):
        for verdict in ("", "Shown", "shown ", "broke", None, 0, True, ("shown",), ["shown"], {}, "never"):
            self.fault(("paper",), verdict, NEVER, ONE)
            self.fault(("paper",), verdict, NEVER_BAD, RUN)

    def test_paper_of_the_other_verdict(self):
        self.fault(("paper",), "broken", NEVER, ONE)
        self.fault(("paper",), "shown", NEVER_BAD, RUN)
        # A paper without parts has the form of a list, and that of a run.
        self.fault(("apart", G0), "shown", NEVER, ())
        self.fault(("misses",), "broken", NEVER, ())

    def test_papers_of_other_kinds(self):
        distance, mend = ("distance", PROGRAM, START, BAD), ("mend", PROGRAM, (("can", BAD),), (("drop", 0, SEND, 1),))
        for claim in (NEVER, ("idle", PROGRAM, 0, 0), distance + (1,), distance + (None,), mend + (1,), mend + (None,)):
            for verdict in ("shown", "broken"):
                for value in OTHER_KINDS + (0, True, "nearer", ("nearer",), ("more",), [()], {0: ()}):
                    self.assertEqual(first_fault((verdict, claim, value)), ("paper",))

    def test_deep_values_that_calls_returned(self):
        certificate = decide(NEVER)
        for _ in range(40):
            certificate = ("shown", NEVER, certificate)
            self.assertEqual(first_fault(certificate), ("paper",))
            self.assertEqual(first_fault((certificate, NEVER, ONE)), ("paper",))
            self.assertEqual(first_fault(("shown", certificate, ONE)), ("claim",))
            self.assertEqual(first_fault(("shown", NEVER, (certificate,))), ("paper",))
            self.assertEqual(first_fault(("shown", NEVER, ((certificate, 0, (None, None)),))), ("paper",))
            self.assertEqual(first_fault(("broken", NEVER, ((certificate, 0, 0),))), ("paper",))


class ListForms(Checks):
    def no_form(self, *papers):
        for paper in papers:
            self.fault(("paper",), "shown", NEVER, paper)

    def test_triples(self):
        self.right("shown", NEVER, ONE)
        self.no_form(list(ONE), (list(ONE[0]),), (ONE[0][:2],), (ONE[0] + (0,),), (None,), (G0,), ONE[0], ONE + (None,))

    def test_lots(self):
        for lot in (
                None, (), G0[:1], ((0, 0), ((2,),)), ((0, 2), ((1,),)), ((0, 0), ((True,),)), ((False, 0), ((1,),)),
                ((0, 0), [(1,)]), ((0, 0), ((1,), ())), ((0,), ((1,),)), ((0, 0), ((1,) * 61,))):
            self.no_form(((lot, 0, (0, None)),), ((lot, 0, (None, None)),))
        self.fault(("apart", G0), "shown", NEVER, ((((0, 0), ((1,) * 60,)), 0, (0, None)),))

    def test_ranks_without_a_bound(self):
        for rank in (-1, 1, 2, True, False, None, "0", (0,), 10 ** 30):
            self.no_form(((G0, rank, (0, None)),), (TWO[0], (G2, rank, (1, 0))))
            self.fault(("paper",), "shown", ("distance", PROGRAM, START, GREATER, None), ((G0, rank, (0, None)),))
            self.fault(("paper",), "shown", ("idle", PROGRAM, 0, 0), ((G0, rank, (0, None)),))

    def test_ranks_with_a_bound(self):
        claim = ("distance", CHAIN, FIRST, LAST)
        for n in range(1, 5):
            rows = chain_list(*reversed(range(n)))
            self.right("broken", claim + (n - 1,), ("farther", rows))
            for rank in (-1, n, n + 1, True, None):
                self.fault(("paper",), "broken", claim + (n - 1,), ("farther", ((rows[0][0], rank, (None,) * 4),) + rows[1:]))
            self.fault(("apart", LAST[0]), "broken", claim + (n - 1,), ("farther", ()))
        self.right("shown", claim + (4,), (STEPS, chain_list(3, 2, 1, 0)))
        self.fault(("paper",), "shown", claim + (4,), (STEPS, chain_list(4, 2, 1, 0)))
        self.fault(("paper",), "shown", claim + (3,), (STEPS[1:], chain_list(3, 2, 1, 0)))
        self.fault(("paper",), "broken", claim + (2,), ("farther", chain_list(3, 2, 1, 0)))

    def test_list_with_the_bound_0(self):
        claim = ("distance", CHAIN, LAST[0], LAST, 0)
        self.right("shown", claim, ((), ()))
        for rank in (0, -1, 1):
            self.fault(("paper",), "shown", claim, ((), ((LAST[0], rank, (None,) * 4),)))
        self.fault(("misses",), "shown", ("distance", CHAIN, FIRST, LAST, 0), ((), ()))

    def test_targets(self):
        for targets in (
                None, (), (0,), (0, None, None), [0, None], (0, 1), (0, -1), (-1, None), (True, None), (False, None),
                (0, False), ("0", None), ((0,), None), (0, None) * 2):
            self.no_form(((G0, 0, targets),))
        self.no_form((TWO[0], (G2, 0, (1, 2))), (TWO[0], (G2, 0, (True, 0))), (TWO[0], (G2, 0, (1, False))))
        self.right("shown", ("never", (1, 1, ((2, ()),)), ((0,), ((),)), (((1,), ((),)),)), ((((1,), ((),)), 0, ()),))

    def test_strictly_ascending_by_lot(self):
        self.right("shown", NEVER, TWO)
        self.no_form(TWO[::-1], (TWO[1], TWO[0]), ONE + ONE, (ONE[0], (G0, 0, (1, None))), THREE[::-1],
                     (THREE[0], THREE[2], THREE[1]))
        self.no_form(((G2, 0, (0, 1)), (G0, 0, (1, None))))

    def long_list(self, many):
        """All lots with at most 19 and 19 letters, and more; each lot one step back is among them."""
        program = (3, 1, ((2, ((0, ("send", 0, 0), 0), (0, ("send", 1, 0), 0))),))
        pairs = [(one, two) for one in range(20) for two in range(20)] + [(20, 0), (21, 0)]
        pairs = sorted(pairs[:many])
        rows = [(((0,), ((0,) * one, (0,) * two, ())), 0,
                 (pairs.index((max(one - 1, 0), two)), pairs.index((one, max(two - 1, 0))))) for one, two in pairs]
        situation = (((0,), ((0,) * 19, (0,) * 19, ())),)
        return ("never", program, ((1,), ((), (), ())), situation), tuple(rows)

    def test_400_and_401_triples(self):
        for many in (400, 401, 402):
            claim, rows = self.long_list(many)
            self.fault(None if many == 400 else ("paper",), "shown", claim, rows)
            distance = ("distance",) + claim[1:]
            self.fault(None if many == 400 else ("paper",), "shown", distance + (None,), rows)


class Lists(Checks):
    def test_lists_that_decide_would_not_write(self):
        for rows in (ONE, TWO, THREE, (THREE[0], (G1, 0, (1, None))), (THREE[0], (G1, 0, (1, None)), THREE[2])):
            self.right("shown", NEVER, rows)
            self.right("shown", ("distance",) + NEVER[1:] + (None,), rows)

    def test_lot_of_the_situation_above_none(self):
        situation = (G0, ((0, 1), ((0,),)), ((0, 1), ((1, 0),)))
        claim = ("never", PROGRAM, START, situation)
        self.fault(("apart", situation[0]), "shown", claim, ())
        self.fault(("apart", situation[1]), "shown", claim, ONE)
        self.fault(("apart", situation[1]), "shown", claim, TWO)
        self.fault(("apart", situation[0]), "shown", claim, ((G2, 0, (0, None)),))
        self.fault(("apart", situation[0]), "shown", claim, ((((0, 1), ((0,),)), 0, (None, None)),))
        self.fault(("target", 1, 0, 0), "shown", claim[:3] + (situation[::2],), (TWO[0], (G2, 0, (None, 0))))

    def test_lot_of_the_situation_above_one_of_another_rank_alone(self):
        claim = ("distance", CHAIN, FIRST, (place(3), place(4)), 1)
        self.right("broken", claim, ("farther", ((place(2), 1, (None,) * 4), (place(3), 0, (None, None, 0, None)),
                                                 (place(4), 0, (None, None, None, 1)))))
        self.fault(("apart", place(3)), "broken", claim, ("farther", (
            (place(2), 1, (None,) * 4), (place(3), 1, (None,) * 4), (place(4), 0, (None, None, None, 1)))))
        self.fault(("apart", place(4)), "broken", claim, ("farther", (
            (place(2), 1, (None,) * 4), (place(3), 0, (None, None, 0, None)), (place(4), 1, (None,) * 4))))

    def test_target_where_none_is_due(self):
        self.fault(("target", 0, 1, 0), "shown", NEVER, ((G0, 0, (0, 0)),))
        self.fault(("target", 1, 1, 0), "shown", NEVER, (THREE[0], (G1, 0, (1, 0)), THREE[2]))

    def test_none_where_a_target_is_due(self):
        self.fault(("target", 0, 0, 0), "shown", NEVER, ((G0, 0, (None, None)),))
        self.fault(("target", 1, 0, 0), "shown", NEVER, (TWO[0], (G2, 0, (None, 0))))
        self.fault(("target", 1, 1, 0), "shown", NEVER, (TWO[0], (G2, 0, (1, None))))

    def test_target_that_the_lot_one_step_back_is_not_above(self):
        self.fault(("target", 1, 0, 0), "shown", NEVER, (TWO[0], (G2, 0, (0, 0))))
        self.fault(("target", 1, 1, 0), "shown", NEVER, (TWO[0], (G2, 0, (1, 1))))
        self.fault(("target", 0, 0, 0), "shown", NEVER, ((G0, 0, (1, None)), (G1, 0, (0, None))))
        # The lot one step back is (0, 1), which is not above (1, 1).
        self.fault(("target", 2, 1, 0), "shown", NEVER, THREE[:2] + ((G2, 0, (2, 1)),))

    def test_the_first_target_that_is_not_right(self):
        self.fault(("target", 0, 0, 0), "shown", NEVER, ((G0, 0, (None, 0)),))
        self.fault(("target", 0, 1, 0), "shown", NEVER, ((G0, 0, (0, 0)), (G2, 0, (None, None))))
        self.fault(("target", 1, 0, 0), "shown", NEVER, (TWO[0], (G2, 0, (None, None))))
        program = (1, 1, ((2, ((0, ("rest",), 1), (1, ("rest",), 0))), (2, ((0, ("rest",), 1), (1, ("rest",), 0)))))
        situation = (((1, 1), ((0,),)),)
        lots = [((one, two), ((0,),)) for one in range(2) for two in range(2)]
        # Each step comes from the other place of its machine.
        targets = ((None, 2, None, 1), (None, 3, 0, None), (0, None, None, 3), (1, None, 2, None))
        rows = tuple([(lot, 0, row) for lot, row in zip(lots, targets)])
        claim = ("never", program, ((0, 0), ((),)), situation)
        self.right("shown", claim, rows)
        for e in range(4):
            for at in range(4):
                for target in (0, 1, 2, 3, None):
                    if target != targets[e][at]:
                        row = targets[e][:at] + (target,) + targets[e][at + 1:]
                        changed = rows[:e] + ((lots[e], 0, row),) + rows[e + 1:]
                        self.fault(("target", e, at // 2, at % 2), "shown", claim, changed)

    def test_claims_lot_is_above_one_of_the_list(self):
        for lot in (G0, G1, ((0, 0), ((0, 1, 0),)), ((0, 0), ((1,) * 60,))):
            self.fault(("begins",), "shown", ("never", PROGRAM, lot, GREATER), ONE)
            self.fault(("begins",), "shown", ("distance", PROGRAM, lot, GREATER, None), ONE)
        self.right("shown", ("never", PROGRAM, G2, GREATER), ONE)
        self.fault(("begins",), "shown", ("never", PROGRAM, G2, GREATER), TWO)
        self.fault(("begins",), "shown", ("never", PROGRAM, START, ((START),)), ((START, 0, (0, None)),))

    def test_sequence_of_the_faults(self):
        beginning = ("never", PROGRAM, G0, (G0, G2))
        self.fault(("apart", G2), "shown", beginning, ((G0, 0, (None, None)),))
        self.fault(("target", 0, 0, 0), "shown", beginning, ((G0, 0, (None, None)), TWO[1]))
        self.fault(("begins",), "shown", beginning, TWO)


class BoundedLists(Checks):
    def test_bounds(self):
        claim = ("distance", CHAIN, FIRST, LAST)
        for n in range(4):
            self.right("broken", claim + (n,), ("farther", chain_list(*reversed(range(n + 1)))))
        self.fault(("begins",), "broken", claim + (4,), ("farther", chain_list(4, 3, 2, 1, 0)))

    def test_bound_of_1(self):
        claim = ("distance", CHAIN, FIRST, LAST, 0)
        self.right("broken", claim, ("farther", chain_list(0)))
        self.right("broken", claim, ("farther", ((place(3), 0, (None,) * 4), (place(4), 0, (None,) * 4))))
        self.fault(("apart", LAST[0]), "broken", claim, ("farther", ()))
        self.fault(("target", 1, 0, 3), "broken", claim, ("farther", chain_list(0, 0)))
        self.fault(("begins",), "broken", ("distance", CHAIN, LAST[0], LAST, 0), ("farther", chain_list(0)))

    def test_last_rank_has_none_everywhere(self):
        claim = ("distance", CHAIN, FIRST, LAST, 2)
        rows = chain_list(2, 1, 0)
        self.right("broken", claim, ("farther", rows))
        for target in range(3):
            for at in range(4):
                row = [None] * 4
                row[at] = target
                changed = ((rows[0][0], 2, tuple(row)),) + rows[1:]
                self.fault(("target", 0, 0, at), "broken", claim, ("farther", changed))
        self.fault(("target", 1, 0, 2), "broken", claim, ("farther", chain_list(2, 2, 0)))

    def test_target_of_too_great_a_rank(self):
        claim = ("distance", CHAIN, FIRST, LAST, 3)
        self.right("broken", claim, ("farther", chain_list(3, 2, 1, 0)))
        self.fault(("target", 3, 0, 3), "broken", claim, ("farther", chain_list(3, 2, 2, 0)))
        farther = chain_list(3, 2, 1, 0)
        changed = farther[:1] + ((place(2), 3, (None,) * 4),) + farther[2:]
        self.fault(("target", 2, 0, 2), "broken", claim, ("farther", changed))
        # Ranks that are less than they have to be are right, but the list then shows too much.
        self.fault(("begins",), "broken", claim, ("farther", chain_list(3, 2, 1, 0, 0)))
        self.fault(("target", 2, 0, 1), "broken", claim, ("farther", chain_list(3, 2, 0, 1, 0)))

    def test_run_and_list(self):
        claim = ("distance", CHAIN, FIRST, LAST, 4)
        self.right("shown", claim, (STEPS, chain_list(3, 2, 1, 0)))
        self.fault(("apart", LAST[0]), "shown", claim, (STEPS, ()))
        self.fault(("target", 3, 0, 3), "shown", claim, (STEPS, chain_list(3, 2, 2, 0)))
        near = ("distance", CHAIN, place(1), LAST, 3)
        self.right("shown", near, (STEPS[1:], chain_list(2, 1, 0)))
        self.fault(("begins",), "shown", ("distance", CHAIN, place(3), LAST, 1), (STEPS[3:], (
            (place(3), 0, (None,) * 4), (place(4), 0, (None,) * 4))))


class Runs(Checks):
    def test_right_runs(self):
        self.right("broken", NEVER_BAD, RUN)
        self.right("broken", ("never", PROGRAM, BAD[0], BAD), ())
        # Longer than it has to be, with losses, with a lot above the situation's at its end.
        self.right("broken", NEVER_BAD, ((((),), 0, 0), (((0,),), 0, 0), (((0, 0),), 1, 0), (((0,),), 0, 0)))
        self.right("broken", NEVER_BAD, ((((),), 0, 0), (((),), 0, 0), (((0,),), 0, 0), (((0,),), 1, 0)))

    def no_form(self, *papers):
        for paper in papers:
            self.fault(("paper",), "broken", NEVER_BAD, paper)
            self.fault(("paper",), "broken", ("idle",) + (PROGRAM, 1, 0), paper)
            self.fault(("paper",), "broken", ("distance",) + NEVER_BAD[1:] + (5,), ("nearer", paper))

    def test_forms_of_entries(self):
        self.no_form(None, list(RUN), RUN[0], (None,), (list(RUN[0]),), (RUN[0][:2],), (RUN[0] + (0,),), RUN + ((),))
        for words in (None, (), (None,), ([],), [()], ((), ()), ((2,),), ((-1,),), ((True,),), ((0,) * 61,), "a"):
            self.no_form(((words, 0, 0),), RUN + ((words, 0, 0),))
        for machine in (-1, 2, True, False, None, "0", (0,)):
            self.no_form(((((),), machine, 0),))
        for index in (-1, 1, 2, True, False, None, "0", (0,)):
            self.no_form(((((),), 0, index),), ((((),), 1, index),))

    def test_words_of_60_letters(self):
        lot = ((0, 0), ((0,) * 60,))
        self.right("broken", ("never", PROGRAM, lot, BAD), ((((0,) * 60,), 1, 0),))
        self.fault(("paper",), "broken", ("never", PROGRAM, lot, BAD), ((((0,) * 61,), 1, 0),))
        self.fault(("step", 0), "broken", ("never", PROGRAM, START, BAD), ((((0,) * 60,), 1, 0),))

    def test_401_and_402_entries(self):
        for many in (400, 401, 402):
            run = ((((),), 0, 0),) * (many - 1) + (((((0,),), 1, 0)),)
            fault = None if many <= 401 else ("paper",)
            self.fault(fault, "broken", NEVER_BAD, run)
            self.fault(fault, "broken", ("idle", PROGRAM, 1, 0), run)
            self.fault(fault, "broken", ("distance",) + NEVER_BAD[1:] + (None,), ("nearer", run))
            self.fault(fault or ("long",), "broken", ("distance",) + NEVER_BAD[1:] + (400,), ("nearer", run))

    def test_first_entry_that_cannot_be_done(self):
        sends = ((((),), 0, 0), (((0,),), 0, 0), (((0, 0),), 0, 0))
        for k in range(4):
            for wrong in ((((1,),), 0, 0), (((0,) * 5,), 0, 0), (((),), 1, 0), (((1,),), 1, 0)):
                for behind in ((), RUN, ((((1,),), 0, 0),)):
                    self.fault(("step", k), "broken", NEVER_BAD, sends[:k] + (wrong,) + behind)
        self.fault(("step", 2), "broken", NEVER_BAD, RUN + ((((),), 1, 0),))

    def test_last_lot_is_not_in_the_situation(self):
        self.fault(("misses",), "broken", NEVER_BAD, ())
        self.fault(("misses",), "broken", NEVER_BAD, RUN[:1])
        self.fault(("misses",), "broken", ("never", PROGRAM, START, (((0, 1), ((0,),)),)), RUN)
        self.right("broken", ("never", PROGRAM, START, (((0, 0), ((1,),)), ((0, 1), ((),)))), RUN)


class Distances(Checks):
    CLAIM = ("distance", PROGRAM, START, BAD)
    ROWS = ((((0, 0), ((0,),)), 1, (None, None)), (((0, 1), ((),)), 0, (1, 0)))
    LONGER = ((((),), 0, 0), (((),), 0, 0), (((0,),), 1, 0))

    def test_each_row(self):
        self.right("shown", self.CLAIM + (2,), (RUN, self.ROWS))
        self.right("shown", ("distance",) + NEVER[1:] + (None,), ONE)
        for n in (3, 4, 400, None):
            self.right("broken", self.CLAIM + (n,), ("nearer", RUN))
        for n in (4, 400, None):
            self.right("broken", self.CLAIM + (n,), ("nearer", self.LONGER))
        self.right("broken", self.CLAIM + (1,), ("farther", self.ROWS))
        self.right("broken", self.CLAIM + (0,), ("farther", ((BAD[0], 0, (None, None)),)))
        for n in (1, 2, 399, 400):
            self.right("broken", ("distance",) + NEVER[1:] + (n,), ("farther", ONE))

    def test_forms(self):
        shown, farther = (RUN, self.ROWS), ("farther", self.ROWS)
        for paper in (None, (), RUN, self.ROWS, shown[:1], shown + ((),), list(shown), shown[::-1], (None, self.ROWS),
                      (RUN, None), (list(RUN), self.ROWS), (RUN, list(self.ROWS)), ("nearer", RUN), farther):
            self.fault(("paper",), "shown", self.CLAIM + (2,), paper)
        for paper in (shown, RUN, ("nearer", RUN), ("farther", ONE), (RUN, ONE), list(ONE), None):
            self.fault(("paper",), "shown", ("distance",) + NEVER[1:] + (None,), paper)
        for word in ("", "near", "Nearer", "farthest", None, 0, True, ("nearer",), "less"):
            self.fault(("paper",), "broken", self.CLAIM + (3,), (word, RUN))
            self.fault(("paper",), "broken", self.CLAIM + (1,), (word, self.ROWS))
        for paper in (("nearer",), ("nearer", RUN, ()), ["nearer", RUN], ("nearer", list(RUN)), ("nearer", self.ROWS),
                      ("farther", RUN), ("farther",), ("farther", self.ROWS, 1), RUN, self.ROWS, shown):
            self.fault(("paper",), "broken", self.CLAIM + (1,), paper)

    def test_farther_where_n_is_none(self):
        for rows in (self.ROWS, (), ONE, None):
            self.fault(("paper",), "broken", self.CLAIM + (None,), ("farther", rows))

    def test_run_of_another_number_of_entries(self):
        for run in ((), RUN[:1], self.LONGER, RUN + RUN):
            self.fault(("long",), "shown", self.CLAIM + (2,), (run, self.ROWS))
        for n in (0, 1, 2):
            self.fault(("long",), "broken", self.CLAIM + (n,), ("nearer", RUN))
        self.fault(("long",), "broken", self.CLAIM + (3,), ("nearer", self.LONGER))
        self.fault(("long",), "broken", self.CLAIM + (0,), ("nearer", ()))

    def test_sequence_of_the_faults(self):
        stuck, misses = ((((),), 0, 0), (((),), 1, 0)), ((((),), 0, 0), (((),), 0, 0))
        wrong = ((((0, 0), ((0,),)), 1, (None, None)), (((0, 1), ((),)), 0, (1, 1)))
        self.fault(("long",), "shown", self.CLAIM + (2,), (stuck[1:], wrong))
        self.fault(("step", 1), "shown", self.CLAIM + (2,), (stuck, wrong))
        self.fault(("misses",), "shown", self.CLAIM + (2,), (misses, wrong))
        self.fault(("target", 1, 1, 0), "shown", self.CLAIM + (2,), (RUN, wrong))
        self.fault(("apart", BAD[0]), "shown", self.CLAIM + (2,), (RUN, self.ROWS[:1]))
        self.fault(("long",), "broken", self.CLAIM + (2,), ("nearer", stuck))
        self.fault(("step", 1), "broken", self.CLAIM + (3,), ("nearer", stuck))
        self.fault(("step", 1), "broken", self.CLAIM + (None,), ("nearer", stuck))
        self.fault(("misses",), "broken", self.CLAIM + (3,), ("nearer", misses))
        self.fault(("apart", BAD[0]), "broken", self.CLAIM + (1,), ("farther", self.ROWS[:1]))
        self.fault(("target", 1, 1, 0), "broken", self.CLAIM + (1,), ("farther", wrong))
        self.fault(("begins",), "broken", ("distance", PROGRAM, ((0, 0), ((0,),)), BAD, 1), ("farther", self.ROWS))


class Idle(Checks):
    DEAF = (1, 2, ((1, (SEND,)), (2, ((0, ("take", 0, 1), 1),))))

    def test_shown(self):
        claim = ("idle", self.DEAF, 1, 0)
        self.right("shown", claim, ((G0, 0, (0, None)),))
        self.fault(("apart", G0), "shown", claim, ())
        self.fault(("apart", G0), "shown", claim, ((G1, 0, (0, None)),))
        self.fault(("target", 0, 0, 0), "shown", claim, ((G0, 0, (None, None)),))
        self.fault(("target", 0, 1, 0), "shown", claim, ((G0, 0, (0, 0)),))
        self.fault(("begins",), "shown", ("idle", PROGRAM, 0, 0), (
            (START, 0, (0, None)), (BAD[0], 0, (1, 0))))

    def test_situation_of_25_lots(self):
        program = (1, 1, ((5, ()), (2, ((0, ("rest",), 0), (1, ("rest",), 0))), (5, ())))
        lots = [((one, 1, two), ((),)) for one in range(5) for two in range(5)]
        rows = tuple([(lot, 0, (None, None)) for lot in lots])
        claim = ("idle", program, 1, 1)
        self.right("shown", claim, rows)
        for at in range(25):
            self.fault(("apart", lots[at]), "shown", claim, rows[:at] + rows[at + 1:])
        self.fault(("apart", lots[3]), "shown", claim, rows[:3] + rows[4:-1])

    def test_broken(self):
        claim = ("idle", PROGRAM, 1, 0)
        self.right("broken", claim, RUN)
        self.right("broken", ("idle", PROGRAM, 0, 0), RUN[:1])
        self.right("broken", ("idle", PROGRAM, 0, 0), RUN[:1] * 5)
        self.fault(("step", 0), "broken", claim, RUN[1:])
        self.fault(("step", 1), "broken", claim, (RUN[0], (((),), 1, 0)))
        self.fault(("step", 2), "broken", claim, RUN + RUN[1:])
        self.fault(("last",), "broken", claim, ())
        self.fault(("last",), "broken", claim, RUN[:1])
        self.fault(("last",), "broken", claim, RUN + RUN[:1])
        self.fault(("last",), "broken", ("idle", PROGRAM, 0, 0), RUN)
        # An entry that cannot be done comes ahead of a last one that is for another step.
        self.fault(("step", 0), "broken", claim, ((((1,),), 0, 0),))

    def test_step_of_the_same_index(self):
        twins = (1, 1, ((1, (SEND, (0, ("test", 0), 0))), (1, (SEND, (0, ("test", 0), 0)))))
        for machine in range(2):
            for index in range(2):
                for other in range(2):
                    for other_index in range(2):
                        same = (machine, index) == (other, other_index)
                        self.fault(None if same else ("last",), "broken", ("idle", twins, machine, index),
                                   ((((),), other, other_index),))


class Mends(Checks):
    OPTIONS = (("drop", 0, SEND, 3), ("drop", 1, TAKE, 2))
    ONE_LETTER = (((0, 0), ((0,),)),)
    # In the program without the second one's step, and in that without the first one's.
    LIST_1, LIST_0 = ((BAD[0], 0, (0,)),), ((((0, 0), ((0,),)), 0, (None,)), (BAD[0], 0, (0,)))

    def claim(self, n, *wishes):
        return "mend", PROGRAM, wishes or (("never", BAD),), self.OPTIONS, n

    def test_each_row(self):
        self.right("shown", self.claim(2), ((1,), (self.LIST_1,), ((0, RUN),)))
        impossible = self.claim(None, ("never", (START,)))
        self.right("shown", impossible, ((0, ()), (0, ()), (0, ()), (0, ())))
        for n in (3, 4, 300, None):
            self.right("broken", self.claim(n), ("less", (1,), (self.LIST_1,)))
        for n in (4, 300, None):
            self.right("broken", self.claim(n), ("less", (0,), (self.LIST_0,)))
        for n in (0, 1):
            self.right("broken", self.claim(n), ("more", ((0, RUN),)))
        self.right("broken", self.claim(300, ("never", (START,))), ("more", ((0, ()),) * 4))
        self.right("broken", self.claim(2, ("never", (START,))), ("more", ((0, ()),) * 2))

    def test_decide_would_not_write_these(self):
        self.right("shown", self.claim(2), ((1,), ((self.LIST_1[0], (((0, 1), ((0,),)), 0, (0,))),), ((0, RUN[:1] + RUN),)))
        both = self.claim(None, ("never", (START,)), ("never", (START,)))
        self.right("shown", both, ((1, ()), (0, ()), (1, ()), (0, ())))

    def test_forms_of_shown_papers(self):
        claim = self.claim(2)
        whole = ((1,), (self.LIST_1,), ((0, RUN),))
        self.right("shown", claim, whole)
        for paper in (None, (), whole[:2], whole + ((),), list(whole), ("less",) + whole[:2], ("more", whole[2]), whole[2]):
            self.fault(("paper",), "shown", claim, paper)
        for choice in (None, 1, [1], (2,), (-1,), (True,), (1, 1), (1, 0), ("1",), (0, 1, 2), ((1,),)):
            self.fault(("paper",), "shown", claim, (choice,) + whole[1:])
        for grounds in (None, (), self.LIST_1, [self.LIST_1], (list(self.LIST_1),), (self.LIST_1,) * 2, (None,),
                        (((BAD[0], 0, (0, None)),),), (((BAD[0], 1, (0,)),),), (RUN,)):
            self.fault(("paper",), "shown", claim, (whole[0], grounds, whole[2]))
        for breaks in (None, (), ((0, RUN),) * 2, [(0, RUN)], ([0, RUN],), ((0,),), ((0, RUN, 0),), ((1, RUN),),
                       ((-1, RUN),), ((False, RUN),), ((None, RUN),), ((0, list(RUN)),), ((0, ONE),), (RUN,)):
            self.fault(("paper",), "shown", claim, whole[:2] + (breaks,))
        for paper in (None, (), ((0, ()),) * 3, ((0, ()),) * 5, whole, ("more", ((0, ()),) * 4), [(0, ())] * 4,
                      ((0, ()),) * 3 + ((1, ()),), ((0, ()),) * 3 + (None,)):
            self.fault(("paper",), "shown", self.claim(None, ("never", (START,))), paper)

    def test_forms_of_broken_papers(self):
        less, more = ("less", (1,), (self.LIST_1,)), ("more", ((0, RUN),))
        for paper in (None, (), less[:2], less + ((),), list(less), ("more",) + less[1:], ("Less",) + less[1:],
                      (None,) + less[1:], less[1:], (less,), ("less", (True,), less[2]), ("less", (1, 0), less[2]),
                      ("less", 1, less[2]), ("less", (1,), ()), ("less", (1,), less[2] * 2), ("less", (1,), (RUN,)),
                      ("less", (0, 1), less[2])):
            self.fault(("paper",), "broken", self.claim(3), paper)
            self.fault(("paper",), "broken", self.claim(None), paper)
        for paper in (more[:1], more + (0,), list(more), ("less",) + more[1:], ("most",) + more[1:], (more,),
                      ("more", ()), ("more", ((0, RUN),) * 2), ("more", ((1, RUN),)), ("more", ((True, RUN),)),
                      ("more", [(0, RUN)]), ("more", (RUN,)), ("more", ((0, ONE),))):
            self.fault(("paper",), "broken", self.claim(1), paper)
        for paper in (more, ("more", ()), ("more", ((0, ()),) * 4)):
            self.fault(("paper",), "broken", self.claim(None), paper)

    def test_options_that_cannot_be_together_are_no_choice(self):
        claim = ("mend", PROGRAM, (("never", GREATER),), (("drop", 0, SEND, 0), ("drop", 0, SEND, 1)), 1)
        without = ((G0, 0, (None,)),)
        self.fault(("cost",), "shown", claim, ((0,), (without,), ((0, ()),) * 2))
        self.fault(("paper",), "shown", claim, ((0, 1), (without,), ((0, ()),) * 2))

    def test_numbers_of_breaks(self):
        # The choices cost 0, 2, 3 and 5.
        for n, many in ((0, 0), (1, 1), (2, 1), (3, 2), (4, 3), (5, 3), (6, 4), (300, 4)):
            for breaks in range(6):
                fault = ("paper",) if breaks != many else ("cost",) if n else ("ground", 0, ("misses",))
                self.fault(fault, "shown", self.claim(n, ("can", BAD)), ((), ((),), ((0, ()),) * breaks))
        for n, many in ((0, 1), (1, 1), (2, 2), (3, 3), (4, 3), (5, 4), (300, 4)):
            for breaks in range(6):
                fault = None if breaks == many else ("paper",)
                self.fault(fault, "broken", self.claim(n, ("never", (START,))), ("more", ((0, ()),) * breaks))

    def test_breaks_and_grounds_are_of_their_changed_programs(self):
        # Without a step, a list has one target for each lot; with all steps, two.
        wishes = (("can", GREATER),)
        rows = ((0, ONE), (0, ((G0, 0, (0,)),)), (0, ((G0, 0, (None,)),)), (0, ((G0, 0, ()),)))
        self.right("shown", self.claim(None, *wishes), rows)
        for at in range(4):
            for other in range(4):
                changed = rows[:at] + (rows[other],) + rows[at + 1:]
                due = {0: 2, 1: 1, 2: 1, 3: 0}
                if other == at:
                    self.right("shown", self.claim(None, *wishes), changed)
                elif due[at] != due[other]:
                    self.fault(("paper",), "shown", self.claim(None, *wishes), changed)
                else:
                    fault = "break", at, ("target", 0, 0 if at == 1 else 1, 0)
                    self.fault(fault, "shown", self.claim(None, *wishes), changed)
        # The machine's only step has the index 0 in a run, too.
        self.fault(("paper",), "broken", self.claim(9, ("can", BAD)), ("less", (1,), (RUN,)))
        self.right("broken", self.claim(9, ("can", self.ONE_LETTER)), ("less", (1,), (RUN[:1],)))

    def test_cost(self):
        # These cost as much as they have to, but a cheaper choice mends.
        cheaper = ((0, RUN), (0, RUN[:1]))
        self.fault(("break", 1, ("misses",)), "shown", self.claim(3), ((0,), (self.LIST_0,), cheaper))
        both = ((0, 1), (((BAD[0], 0, ()),),), cheaper + ((0, ()),))
        self.fault(("break", 1, ("misses",)), "shown", self.claim(5), both)
        for n in (0, 1, 3, 4, 5, 6, 300):
            asked = sum(cost < n for cost in (0, 2, 3, 5))
            self.fault(("cost",), "shown", self.claim(n), ((1,), (self.LIST_1,), ((0, ()),) * asked))
        for n in (0, 1, 2):
            self.fault(("cost",), "broken", self.claim(n), ("less", (1,), (self.LIST_1,)))
        for n in (0, 3):
            self.fault(("cost",), "broken", self.claim(n), ("less", (0,), (self.LIST_0,)))
        self.fault(("cost",), "broken", self.claim(0, ("can", BAD)), ("less", (), (RUN,)))

    def test_first_ground_with_a_fault(self):
        wishes = (("can", self.ONE_LETTER), ("never", BAD), ("never", GREATER))
        right = (RUN[:1], self.LIST_1, ((G0, 0, (0,)),))
        wrong = ((), ((BAD[0], 0, (None,)),), ())
        faults = (("misses",), ("target", 0, 0, 0), ("apart", G0))
        self.right("shown", self.claim(2, *wishes), ((1,), right, ((1, RUN),)))
        for at in range(3):
            for later in range(at, 3):
                grounds = list(right)
                grounds[at], grounds[later] = wrong[at], wrong[later]
                told = "ground", at, faults[at]
                self.fault(told, "shown", self.claim(2, *wishes), ((1,), tuple(grounds), ((1, RUN),)))
                self.fault(told, "broken", self.claim(3, *wishes), ("less", (1,), tuple(grounds)))
        self.fault(("ground", 0, ("begins",)), "broken", self.claim(None, ("never", (START,))),
                   ("less", (0, 1), (((START, 0, ()),),)))
        self.fault(("ground", 0, ("step", 0)), "broken", self.claim(None, ("can", GREATER)),
                   ("less", (1,), (((((1,),), 0, 0),),)))

    def test_first_break_with_a_fault(self):
        wishes = (("never", BAD), ("can", GREATER))
        right = ((0, RUN), (1, ((G0, 0, (0,)),)), (1, ((G0, 0, (None,)),)), (1, ((G0, 0, ()),)))
        wrong = ((0, RUN[:1]), (1, ()), (1, ((G0, 0, (0,)),)), (1, ((START, 0, ()),)))
        faults = (("misses",), ("apart", G0), ("target", 0, 1, 0), ("begins",))
        self.right("shown", self.claim(None, *wishes), right)
        for at in range(4):
            for later in range(at, 4):
                breaks = list(right)
                breaks[at], breaks[later] = wrong[at], wrong[later]
                told = "break", at, faults[at]
                self.fault(told, "shown", self.claim(None, *wishes), tuple(breaks))
                self.fault(told, "broken", self.claim(300, *wishes), ("more", tuple(breaks)))
        self.fault(("break", 0, ("step", 0)), "broken", self.claim(0, *wishes), ("more", ((0, RUN[1:]),)))
        self.fault(("break", 0, ("misses",)), "broken", self.claim(0, *wishes), ("more", ((0, ()),)))

    def test_sequence_of_the_faults(self):
        wrong_list, wrong_run = ((BAD[0], 0, (None,)),), RUN[1:]
        self.fault(("cost",), "shown", self.claim(1), ((1,), (wrong_list,), ((0, wrong_run),)))
        self.fault(("ground", 0, ("target", 0, 0, 0)), "shown", self.claim(2), ((1,), (wrong_list,), ((0, wrong_run),)))
        self.fault(("break", 0, ("step", 0)), "shown", self.claim(2), ((1,), (self.LIST_1,), ((0, wrong_run),)))
        self.fault(("cost",), "broken", self.claim(2), ("less", (1,), (wrong_list,)))

    def test_dropped_and_put_steps_are_numbered_anew(self):
        # The step that is put stands ahead of the other one, which has the index 1 then.
        options = (("put", 0, (0, ("rest",), 0), 1),)
        claim = ("mend", PROGRAM, (("can", self.ONE_LETTER),), options, None)
        self.right("broken", claim, ("less", (0,), (((((),), 0, 1),),)))
        self.fault(("ground", 0, ("misses",)), "broken", claim, ("less", (0,), (((((),), 0, 0),),)))
        self.fault(("paper",), "broken", claim, ("less", (0,), (((((),), 0, 2),),)))
        self.fault(("paper",), "broken", claim, ("less", (), (((((),), 0, 1),),)))


if __name__ == "__main__":
    unittest.main()

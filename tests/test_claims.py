import unittest

from calls import Calls
from losinglanes import claims
from losinglanes.claims import require_claim
from losinglanes.errors import InvalidClaim
from plain_checker import wrong_claim_part
from samples import OTHER_KINDS, part_at, paths_of, spoiled_parts, with_part

SEND, TAKE = (0, ("send", 0, 0), 0), (0, ("take", 0, 0), 1)
PROGRAM = (1, 2, ((1, (SEND,)), (2, (TAKE, (1, ("test", 0), 0)))))
START, BAD = ((0, 0), ((),)), (((0, 1), ((),)),)
LOTS = (((0, 0), ((),)), ((0, 0), ((1,),)), ((0, 1), ((0, 1),)))
OPTIONS = (("drop", 0, SEND, 3), ("put", 1, (0, ("rest",), 0), 99), ("put", 0, (0, ("send", 0, 1), 0), 0))
WISHES = (("never", BAD), ("can", LOTS), ("never", LOTS[:2]))

NEVER = ("never", PROGRAM, START, BAD)
DISTANCE = ("distance", PROGRAM, START, BAD, 2)
IDLE = ("idle", PROGRAM, 1, 0)
MEND = ("mend", PROGRAM, WISHES, OPTIONS, 2)
CLAIMS = (NEVER, DISTANCE, IDLE, MEND)
NAMES = {
    "never": ("kind", "program", "lot", "situation"),
    "distance": ("kind", "program", "lot", "situation", "n"),
    "idle": ("kind", "program", "machine", "index"),
    "mend": ("kind", "program", "wishes", "options", "n"),
}

# For each part of a claim of the program above what is wrong in just that part.
WRONG = {
    "program": (
        None, (), PROGRAM[:2], PROGRAM + (0,), list(PROGRAM), (0,) + PROGRAM[1:], (True,) + PROGRAM[1:],
        (4,) + PROGRAM[1:], (1, 0, PROGRAM[2]), (1, 4, PROGRAM[2]), (1, 2, ()), (1, 2, list(PROGRAM[2])),
        (1, 2, PROGRAM[2] * 2), (1, 2, PROGRAM[2][:1] + ((6, ()),)), (1, 2, ((1, (SEND, SEND)), PROGRAM[2][1]))),
    "lot": (
        None, (), START[:1], START + ((),), list(START), ((0,), ((),)), ((0, 0, 0), ((),)), ((0, 2), ((),)),
        ((0, -1), ((),)), ((0, True), ((),)), ((0, 0), ()), ((0, 0), ((), ())), ((0, 0), ((2,),)),
        ((0, 0), ((-1,),)), ((0, 0), ((True,),)), ((0, 0), ((0,) * 61,)), ((0, 0), ([],))),
    "situation": (
        None, (), list(BAD), BAD[0], BAD * 2, LOTS[::-1], LOTS + (((0, 1), ((1,),)),), (LOTS[1], LOTS[0]),
        (((0, 1), ((0,) * 61,)),), (((0, 2), ((),)),), (((0, False), ((),)),), LOTS[:1] + (None,)),
    "machine": (-1, 2, 3, True, False, None, "0", (1,), 10 ** 30),
    "index": (-1, 2, 3, True, False, None, "0", (1,), 10 ** 30),
    "wishes": (
        None, (), list(WISHES), WISHES[0], WISHES + WISHES[:1], (("never",),), (("never", BAD, 0),), (["never", BAD],),
        (("always", BAD),), ((None, BAD),), (("Never", BAD),), ((BAD, "never"),), (("can", ()),), (("can", LOTS[::-1]),),
        (("can", BAD[0]),), WISHES[:2] + (("can", (((0, 1), ((0,) * 61,)),)),), WISHES[:1] + (None,)),
    "options": (
        None, (), list(OPTIONS), OPTIONS[0], OPTIONS + OPTIONS[:1], (OPTIONS[0][:3],), (OPTIONS[0] + (0,),),
        (("drop", 0, SEND, 100),), (("drop", 0, SEND, -1),), (("drop", 0, SEND, True),), (("drop", 0, TAKE, 1),),
        (("put", 0, SEND, 1),), (("put", 2, SEND, 1),), (("add", 0, SEND, 1),), OPTIONS[:2] + (None,)),
    "n": (-1, True, False, "2", (2,), [2], -10 ** 30, 10 ** 30),
}


class RequireClaim(Calls):
    def taken(self, value):
        with self.subTest(value=str(value)[:200]):
            before = repr(value)
            self.assertIs(require_claim(value), value)
            self.assertEqual(repr(value), before)
            self.assertIsNone(wrong_claim_part(value))

    def refused(self, value, part):
        self.raises(InvalidClaim, {"part": part}, require_claim, value)

    def refused_shortly(self, value, part):
        """Without a look at the whole value, which may be great."""
        with self.assertRaises(InvalidClaim) as caught:
            require_claim(value)
        self.assertEqual(repr(caught.exception.part), repr(part), value[:1])

    def test_function_stands_in_its_file(self):
        self.stands_in(claims, require_claim, "(claim)")
        self.assertIs(require_claim(claim=NEVER), NEVER)

    def test_each_kind(self):
        for claim in CLAIMS:
            self.taken(claim)

    def test_n_at_its_bounds(self):
        for n in (0, 1, 2, 299, 300, None):
            self.taken(DISTANCE[:4] + (n,))
            self.taken(MEND[:4] + (n,))
        for n in (301, 399, 400):
            self.taken(DISTANCE[:4] + (n,))
            self.refused(MEND[:4] + (n,), "n")
        for n in (401, 402, -1, -2):
            self.refused(DISTANCE[:4] + (n,), "n")
            self.refused(MEND[:4] + (n,), "n")

    def test_machine_and_index_at_their_bounds(self):
        for machine, many in ((0, 1), (1, 2)):
            for index in range(many):
                self.taken(("idle", PROGRAM, machine, index))
            self.refused(("idle", PROGRAM, machine, many), "index")
            self.refused(("idle", PROGRAM, machine, -1), "index")
        self.refused(("idle", PROGRAM, 2, 0), "machine")
        self.refused(("idle", (1, 1, ((1, ()),)), 0, 0), "index")
        self.refused(("idle", (1, 1, ((1, ()),)), 1, 0), "machine")

    def test_one_to_three_wishes_and_options_and_lots(self):
        for many in (1, 2, 3):
            self.taken(MEND[:2] + (WISHES[:many],) + MEND[3:])
            self.taken(MEND[:3] + (OPTIONS[:many],) + MEND[4:])
            self.taken(NEVER[:3] + (LOTS[:many],))
            self.taken(MEND[:2] + ((("can", LOTS[:many]),),) + MEND[3:])
        self.taken(MEND[:2] + (WISHES[:1] * 3, OPTIONS[:1] * 3, None))

    def test_words_of_60_and_61_letters(self):
        long, longer = ((0, 1), ((0, 1) * 30,)), ((0, 1), ((0,) + (0, 1) * 30,))
        for claim in (NEVER, DISTANCE):
            self.taken(claim[:2] + (long,) + claim[3:])
            self.refused(claim[:2] + (longer,) + claim[3:], "lot")
            self.taken(claim[:3] + ((long,),) + claim[4:])
            self.refused(claim[:3] + ((longer,),) + claim[4:], "situation")
        self.taken(MEND[:2] + ((("can", (long,)),),) + MEND[3:])
        self.refused(MEND[:2] + ((("can", (longer,)),),) + MEND[3:], "wishes")

    def test_numbers_of_parts(self):
        for claim in CLAIMS:
            for many in range(len(claim)):
                self.refused(claim[:many], "kind")
            for more in ((None,), (0,), claim):
                self.refused(claim + more, "kind")
        self.refused(NEVER + (2,), "kind")
        self.refused(("never",) + DISTANCE[1:], "kind")
        self.refused(("distance",) + NEVER[1:], "kind")

    def test_unknown_words(self):
        for claim in CLAIMS:
            for word in ("", "nevers", "Never", "idle ", "can", "put", None, 0, True, (claim[0],), [claim[0]], {}):
                self.refused((word,) + claim[1:], "kind")

    def test_other_kinds_of_the_same_number_of_parts(self):
        self.refused(("idle",) + NEVER[1:], "machine")
        self.refused(("never",) + IDLE[1:], "lot")
        self.refused(("mend",) + DISTANCE[1:], "wishes")
        self.refused(("distance",) + MEND[1:], "lot")

    def test_each_part_wrong_alone(self):
        for claim in CLAIMS:
            for at, name in enumerate(NAMES[claim[0]]):
                for wrong in WRONG.get(name, ()):
                    self.refused(with_part(claim, (at,), wrong), name)

    def test_the_first_of_two_wrong_parts_is_told(self):
        for claim in CLAIMS:
            names = NAMES[claim[0]]
            for at in range(1, len(claim)):
                for later in range(at + 1, len(claim)):
                    for wrong in WRONG[names[at]]:
                        for other in WRONG[names[later]][:4]:
                            value = with_part(with_part(claim, (at,), wrong), (later,), other)
                            self.refused(value, names[at])

    def test_each_part_spoiled_alone(self):
        for claim in CLAIMS:
            for path in paths_of(claim):
                name = NAMES[claim[0]][path[0]] if path else "kind"
                for spoiled in spoiled_parts(part_at(claim, path)):
                    # Only n may be None.
                    if name != "n" or spoiled is not None:
                        value = with_part(claim, path, spoiled)
                        self.refused_shortly(value if path else (value,), name)

    def test_values_of_other_kinds(self):
        for value in OTHER_KINDS + (0, 1, True, "never", PROGRAM, START, BAD, list(NEVER), {0: NEVER}, (NEVER,)):
            with self.assertRaises(InvalidClaim) as caught:
                require_claim(value)
            self.assertEqual(caught.exception.part, "kind")


if __name__ == "__main__":
    unittest.main()

"""Certificates by way of trial: what decide writes, and what becomes of it when parts are changed."""

import unittest
from collections import Counter

from calls import Calls
from claiming import some_claim, some_shape
from losinglanes.checker import first_fault
from losinglanes.claims import decide
from plain_checker import is_so, plain_fault
from spoiling import spoil
from trials import seeded

KINDS = ("never", "distance", "idle", "mend")


def row_of(certificate):
    """The row of the table that the certificate belongs to."""
    verdict, claim, paper = certificate
    if claim[0] not in ("distance", "mend"):
        return claim[0], verdict
    return claim[0], verdict, paper[0] if verdict == "broken" else claim[4] is None


def name_of(fault):
    if fault is None or fault[0] not in ("ground", "break"):
        return fault and fault[0]
    return fault[0], fault[2][0]


class Certificates(Calls):
    def decided(self, seeds):
        """Certificates of some claims of each kind, each with its choices."""
        for seed in seeds:
            random = seeded(seed + 123000)
            claim = some_claim(random, some_shape(random, seed), KINDS[seed % 4])
            yield random, decide(claim)

    def test_what_decide_writes_is_so_and_right(self):
        rows = Counter()
        for _, certificate in self.decided(range(600)):
            verdict, claim, _ = certificate
            before = repr(claim)
            self.plain(certificate)
            self.assertIs(claim, certificate[1])
            self.assertEqual(verdict, "shown" if is_so(claim) else "broken", claim)
            self.told(first_fault(certificate), None)
            self.assertIsNone(plain_fault(certificate))
            self.assertEqual(repr(claim), before)
            rows[row_of(certificate)] += 1
        self.assertEqual(len(rows), 12)
        self.assertGreater(min(rows.values()), 3, rows)

    def test_changed_papers(self):
        """Each fault that the document names is told where it tells, and no wrong claim passes."""
        faults = Counter()
        for random, certificate in self.decided(range(400)):
            for _ in range(40):
                verdict, claim, paper = certificate
                for _ in range(random.choice((1, 1, 1, 2, 3))):
                    paper = spoil(random, paper)
                faults[self.fault_of((verdict, claim, paper))] += 1
        self.assertTrue({None, "paper", "apart", "target", "step", "misses", "last", "long", "cost"} <= set(faults))
        for name in ("apart", "target", "begins", "step", "misses"):
            self.assertTrue(("ground", name) in faults or ("break", name) in faults or name in faults, name)

    def test_changed_certificates(self):
        faults = Counter()
        for random, certificate in self.decided(range(1000, 1200)):
            for _ in range(40):
                changed = certificate
                for _ in range(random.choice((1, 1, 2, 3))):
                    changed = spoil(random, changed)
                faults[self.fault_of(changed)] += 1
        self.assertTrue({None, "form", "claim", "paper"} <= set(faults))

    def test_papers_of_other_claims(self):
        found = [certificate for _, certificate in self.decided(range(2000, 2060))]
        faults = Counter()
        for verdict, _, paper in found:
            for _, claim, _ in found:
                faults[self.fault_of((verdict, claim, paper))] += 1
        self.assertTrue({None, "paper", "apart"} <= set(faults))

    def fault_of(self, certificate):
        before = repr(certificate)
        fault = first_fault(certificate)
        self.assertEqual(repr(certificate), before)
        self.assertEqual(repr(fault), repr(plain_fault(certificate)), certificate)
        if fault is None:
            verdict, claim, _ = certificate
            self.assertEqual(verdict, "shown" if is_so(claim) else "broken", certificate)
        return name_of(fault)


if __name__ == "__main__":
    unittest.main()

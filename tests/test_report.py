import unittest

from claimwise.errors import BadRow, NoClaim, NoGround, NoKind, NoPart, NoRange, NotUnder, TooBig, TooMany, Twice, TwoGrounds
from claimwise.report import report
from helper import Checks

KINDS = "kind rod\nkind bar of rod\nkind tube of rod\nkind plate\nkind cap"
THING = "part cap\npart bar\nsize long 4\npart rod\njoin clip 1 2\nstep weld 2"
MANY = "claim\nat least 5 rod or cap or plate"
NO_GROUND = "claim\nthe rod clip the rod"


def rows(*told):
    return "\n".join(told)


class ReportTest(Checks, unittest.TestCase):
    def tells(self, claims, thing, *expected):
        self.same(report(KINDS, claims, thing), rows(*expected))

    def test_no_claim(self):
        self.tells("", THING)
        self.tells("\n \n", "")
        self.same(report("", "", ""), "")

    def test_one_claim(self):
        self.tells("claim\na rod", THING, "claim 1 covers 0 1")
        self.tells("claim\na plate", THING, "claim 1 covers not")
        self.tells("claim\na rod", "", "claim 1 covers not")

    def test_the_findings_numbers(self):
        self.tells("claim\na rod\na cap\na bar", THING, "claim 1 covers 0 2 0 1")
        self.tells("claim\nat least 5 cap", rows("part rod", *["part cap"] * 7), "claim 1 covers 0 1 2 3 4 5")

    def test_a_reading_without_parts(self):
        self.tells("claim", THING, "claim 1 covers 0")
        self.tells("claim", "", "claim 1 covers 0")

    def test_a_reading_beyond_the_first(self):
        claims = rows("claim", "a plate", "claim", "a tube", "claim", "a cap", "claim on 1 or 2 or 3", "a rod")
        told = report(KINDS, claims, THING).split("\n")
        self.same(told[:4], ["claim 1 covers not", "claim 2 covers not", "claim 3 covers 0 0", "claim 4 covers 2 0 1"])

    def test_three_claims(self):
        claims = rows("claim", "a rod", "claim on 1", "then weld the rod", "claim", "a cap")
        expected = ["claim 1 covers 0 1", "claim 2 covers 0 2", "claim 3 covers 0 0", "1 2 wider", "1 3 across", "2 3 across"]
        self.tells(claims, THING, *expected)
        self.tells(claims, "part tube", "claim 1 covers 0 0", "claim 2 covers not", "claim 3 covers not", *expected[3:])

    def test_each_word(self):
        claims = rows("claim", "a bar", "claim", "a rod", "claim", "a rod", "claim", "just 1 rod", "claim", "just 2 rod")
        words = ["1 2 narrower", "1 3 narrower", "1 4 across", "1 5 across", "2 3 same", "2 4 wider", "2 5 wider", "3 4 wider", "3 5 wider", "4 5 apart"]
        told = report(KINDS, claims, "").split("\n")
        self.same(told, [f"claim {number} covers not" for number in range(1, 6)] + words)

    def test_twelve_claims(self):
        claims = rows(*["claim\na rod"] * 12)
        pairs = [f"{one} {other} same" for one in range(1, 13) for other in range(one + 1, 13)]
        self.tells(claims, "part rod", *[f"claim {number} covers 0 0" for number in range(1, 13)], *pairs)

    def test_a_fault_in_each_text(self):
        self.refused(BadRow, {"row": 1}, report, "kind rod\nrod", "", "")
        self.refused(Twice, {"row": 1}, report, "kind rod\nkind rod", "", "")
        self.refused(NoKind, {"claim": 0, "row": 0}, report, "kind rod of bar", "", "")
        self.refused(BadRow, {"row": 1}, report, KINDS, "claim\nrod", THING)
        self.refused(NoClaim, {"row": 0}, report, KINDS, "claim on 1", THING)
        self.refused(TooBig, {"claim": 0, "row": 12}, report, KINDS, rows(*["claim"] * 13), THING)
        self.refused(BadRow, {"row": 0}, report, KINDS, "claim", "rod")
        self.refused(NoKind, {"claim": 0, "row": 0}, report, KINDS, "claim", "part pole")
        self.refused(NoPart, {"row": 1}, report, KINDS, "claim", "part rod\nstep weld 1")

    def test_the_texts_in_their_order(self):
        self.refused(Twice, {"row": 1}, report, "kind rod\nkind rod", "rod", "rod")
        self.refused(Twice, {"row": 1}, report, "kind rod\nkind rod", NO_GROUND, "part pole")
        self.refused(BadRow, {"row": 0}, report, KINDS, "rod", "part rod\nstep weld 1")
        self.refused(NoClaim, {"row": 0}, report, KINDS, "claim on 2", "part pole")

    def test_texts_go_ahead_of_claims_without_ground(self):
        self.refused(NoPart, {"row": 0}, report, KINDS, NO_GROUND, "step weld 0")
        self.refused(BadRow, {"row": 2}, report, KINDS, NO_GROUND + "\nno row", "step weld 0")
        self.refused(NoPart, {"row": 0}, report, KINDS, rows(MANY, MANY), "step weld 0")

    def test_claims_without_ground_in_their_order(self):
        self.refused(NoGround, {"claim": 1, "row": 0, "word": 0}, report, KINDS, NO_GROUND, THING)
        self.refused(NoKind, {"claim": 1, "row": 0}, report, KINDS, "claim\na pole", THING)
        claims = rows("claim", "a rod", "claim on 1", "the rod long of 3", "the rod long of 4", NO_GROUND)
        self.refused(NoRange, {"claim": 2, "row": 1}, report, KINDS, claims, THING)
        claims = rows("claim", "a rod", "claim", "a bar", "a tube", "then weld the rod", "claim on 1", "the rod is a cap")
        self.refused(TwoGrounds, {"claim": 2, "row": 2, "word": 0}, report, KINDS, claims, THING)
        claims = rows("claim", "a rod", "claim on 1", "the rod is a cap", "claim", "at least 5 rod", "a rod")
        self.refused(NotUnder, {"claim": 2, "row": 0}, report, KINDS, claims, THING)
        self.refused(TooBig, {"claim": 1, "row": 1}, report, KINDS, "claim\nat least 5 rod\na rod", THING)
        claims = rows(*["claim"] * 3, "claim on 1 or 2 or 3", "claim on 1 or 2 or 3 or 4", "claim on 4 or 5", NO_GROUND)
        self.refused(TooBig, {"claim": 6, "row": 0}, report, KINDS, claims, THING)

    def test_too_many(self):
        self.refused(TooMany, {}, report, KINDS, rows(MANY, "claim"), THING)
        self.refused(TooMany, {}, report, KINDS, rows("claim", MANY), THING)
        self.refused(TooMany, {}, report, KINDS, rows("claim", "claim", MANY), THING)

    # One claim by itself stands to nothing, so nothing is too many.
    def test_one_claim_of_many_things(self):
        self.tells(MANY, THING, "claim 1 covers not")

    def test_no_ground_goes_ahead_of_too_many(self):
        self.refused(NoGround, {"claim": 3, "row": 0, "word": 0}, report, KINDS, rows(MANY, MANY, NO_GROUND), THING)


if __name__ == "__main__":
    unittest.main()

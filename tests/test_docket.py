import random
import unittest

from claimwise.docket import Docket
from claimwise.errors import BadRow, ClaimError, NoClaim, NoGround, NoKind, NoRange, NotUnder, TooBig, TwoGrounds
from claimwise.ground import chains_of, readings_of
from claimwise.tongue import read_claims
from helper import KINDS, NO_NUMBERS, Checks, fresh


def rows(*told):
    return "\n".join(told)


def docket_of(*texts):
    docket = Docket(KINDS)
    for text in texts:
        docket.add(text)
    return docket


# All that can be asked of a docket.
def state(docket):
    claims = docket.claims()
    return (docket.written(), claims, [docket.readings(number + 1) for number in range(len(claims))])


class Asking(Checks):
    # What holds behind any deeds.
    def sound(self, docket):
        text, claims, readings = state(docket)
        self.same(claims, read_claims(text))
        self.same(readings, [readings_of(KINDS, claims, number + 1) for number in range(len(claims))])
        self.unshared(claims, readings, docket.claims(), [docket.readings(number + 1) for number in range(len(claims))])

    def written(self, docket, *told):
        self.same(docket.written(), rows(*told))
        self.sound(docket)

    def refuses(self, docket, refusal, fields, call, argument):
        with self.subTest(refusal=refusal, argument=argument):
            kept = state(docket)
            self.refused(refusal, fields, call, argument)
            self.same(state(docket), kept)


class AddTest(Asking, unittest.TestCase):
    def bad(self, docket, refusal, row, *told):
        fields = {"claim": 0, "row": row} if refusal is TooBig else {"row": row}
        self.refuses(docket, refusal, fields, docket.add, rows(*told))

    def test_no_claims(self):
        docket = docket_of()
        self.written(docket)
        self.same(docket.claims(), [])
        self.same(docket.written(), "")

    def test_adding_tells_nothing(self):
        docket = docket_of()
        self.assertIsNone(docket.add("claim"))
        self.written(docket, "claim")

    def test_takes_none_one_and_several(self):
        docket = docket_of("claim\na rod", "claim on 1\nthen weld the rod", "claim\nan cap", "claim on 1 or 2 or 3\na plate")
        self.written(docket, "claim", "a rod", "claim on 1", "then weld the rod", "claim", "a cap", "claim on 1 or 2 or 3", "a plate")
        self.same([claim[0] for claim in docket.claims()], [[], [1], [], [1, 2, 3]])
        self.same(docket.readings(2), [([("rod",)], [], [], [], [("weld", 0)])])
        self.assertEqual(len(docket.readings(4)), 3)

    def test_written_with_its_own_words(self):
        docket = docket_of("\n  claim  \n\n an   big rod or cap\nat least 1 plate\n\nsaid plate long from 3 to 3\njust 2 disc \n")
        self.written(docket, "claim", "a big rod or cap", "a plate", "the plate long of 3", "just 2 disc")

    def test_rows_above_the_claim(self):
        docket = docket_of("claim\na rod")
        self.bad(docket, BadRow, 0, "a rod", "claim")
        self.bad(docket, BadRow, 2, "", "  ", "kind rod", "claim")
        self.bad(docket, BadRow, 0, "Claim")

    def test_a_text_without_a_claim(self):
        docket = docket_of("claim\na rod")
        for text in ("", " ", "\n", "\n  \n\n"):
            self.bad(docket, BadRow, 0, text)

    def test_rows_of_no_form(self):
        docket = docket_of("claim\na rod", "claim")
        self.bad(docket, BadRow, 1, "claim", "rod")
        self.bad(docket, BadRow, 4, "", "claim on 1 or 2", "a cap", "", "at least 6 cap", "a")
        self.bad(docket, BadRow, 2, "claim", "a rod", "the rod long from 5 to 4")
        self.bad(docket, BadRow, 1, "claim", "a rod or rod")
        for word in NO_NUMBERS + ["on", "1 or", "1 2", "2 or 1", "1 or 1", "-1"]:
            self.bad(docket, BadRow, 0, "claim on " + word)
        self.bad(docket, BadRow, 1, "", "claim 1")

    def test_no_claim_above(self):
        docket = docket_of("claim\na rod", "claim")
        for told in ("0", "3", "1 or 3", "0 or 1", "2 or 13", "123456789012345678901234567890"):
            self.bad(docket, NoClaim, 0, "claim on " + told)
            self.bad(docket, NoClaim, 2, "", " ", "claim on " + told, "no row")
        self.bad(docket_of(), NoClaim, 0, "claim on 1")

    def test_thirteen_rows(self):
        docket = docket_of()
        self.bad(docket, TooBig, 13, "claim", "a rod", *["then weld the rod"] * 12)
        self.bad(docket, TooBig, 15, "", "claim", "a rod", "", *["then weld the rod"] * 12)
        self.bad(docket, BadRow, 13, "claim", "a rod", *["then weld the rod"] * 11, "then weld")
        self.bad(docket, BadRow, 13, "claim", "a rod", *["then weld the rod"] * 11, "claim")
        docket.add(rows("claim", "a rod", *["then weld the rod"] * 11))
        self.sound(docket)

    def test_a_second_claim(self):
        docket = docket_of("claim\na rod")
        for second in ("claim", "claim on 1", "claim on 2", "claim on 9", "claim on", "claim on 2 or 1", "claim one"):
            self.bad(docket, BadRow, 1, "claim", second)
            self.bad(docket, BadRow, 3, "claim on 1", "a cap", "", " " + second, "a cap")
        self.bad(docket, BadRow, 1, "claim", "no row", "claim")
        self.bad(docket, NoClaim, 0, "claim on 2", "claim")

    def test_a_thirteenth_claim(self):
        docket = docket_of(*["claim\na rod"] * 12)
        for text in ("claim", "claim\na cap", "claim on 12\nthen weld the rod", "claim\na pole", "claim\nthe rod clip the rod"):
            self.refuses(docket, TooBig, {"claim": 13, "row": 0}, docket.add, text)
        self.bad(docket, BadRow, 1, "claim", "no row")
        self.bad(docket, BadRow, 1, "claim", "claim")
        self.bad(docket, BadRow, 0, "")
        self.bad(docket, NoClaim, 0, "claim on 13")
        self.bad(docket, TooBig, 13, "claim", "a rod", *["then weld the rod"] * 12)
        docket.strike(3)
        docket.add("claim on 11")
        self.assertEqual(len(docket.claims()), 12)

    def test_what_has_no_ground(self):
        docket = docket_of("claim\na rod", "claim\na cap", "claim on 1 or 2\na plate")
        here = {"claim": 4, "row": 0}
        self.refuses(docket, NoKind, here, docket.add, "claim\na pole")
        self.refuses(docket, NoKind, {"claim": 4, "row": 1}, docket.add, "claim\na rod\n\nthe pole long of 3")
        self.refuses(docket, NoGround, dict(here, word=0), docket.add, "claim\nthe rod clip the rod")
        self.refuses(docket, NoGround, dict(here, word=1), docket.add, "claim on 1\nthe rod clip the cap")
        self.refuses(docket, NoGround, dict(here, word=0), docket.add, "claim on 1 or 2\nthen weld the rod")
        self.refuses(docket, NoGround, dict(here, word=0), docket.add, "claim on 3\nthen weld the rod")
        self.refuses(docket, TwoGrounds, {"claim": 4, "row": 1, "word": 0}, docket.add, "claim on 1\na bar\nthen weld the rod")
        self.refuses(docket, NotUnder, here, docket.add, "claim on 1\nthe rod is a cap")
        self.refuses(docket, NoRange, {"claim": 4, "row": 1}, docket.add, "claim on 1\nthe rod long of 3\nthe rod long of 4")
        self.refuses(docket, TooBig, here, docket.add, "claim on 3\nat least 4 disc")
        self.sound(docket)
        docket.add("claim on 3\nat least 3 disc")
        self.sound(docket)

    def test_too_many_chains(self):
        docket = docket_of("claim", "claim", "claim on 1 or 2", "claim on 1 or 2 or 3")
        self.refuses(docket, TooBig, {"claim": 5, "row": 0}, docket.add, "claim on 1 or 3 or 4\na pole")
        docket.add("claim on 3 or 4")
        self.assertEqual(len(docket.readings(5)), 6)

    def test_readings_of_no_claim(self):
        docket = docket_of("claim\na rod", "claim")
        for number in (0, 3, -1, -2, 13, 10 ** 30, -(10 ** 30)):
            self.refuses(docket, NoClaim, {"row": 0}, docket.readings, number)
        self.refuses(docket_of(), NoClaim, {"row": 0}, docket_of().readings, 1)


class StrikeTest(Asking, unittest.TestCase):
    def test_striking_tells_nothing(self):
        docket = docket_of("claim\na rod")
        self.assertIsNone(docket.strike(1))
        self.written(docket)

    def test_one_that_nothing_takes(self):
        docket = docket_of("claim\na rod", "claim\na cap", "claim\na disc")
        docket.strike(2)
        self.written(docket, "claim", "a rod", "claim", "a disc")
        docket.strike(2)
        self.written(docket, "claim", "a rod")

    def test_one_that_takes_just_the_struck_one(self):
        docket = docket_of("claim\na rod", "claim on 1\nthen weld the rod", "claim on 1\na cap")
        docket.strike(1)
        self.written(docket, "claim", "a rod", "then weld the rod", "claim", "a rod", "a cap")

    def test_the_struck_ones_takes(self):
        docket = docket_of("claim\na rod", "claim\na bar", "claim on 1 or 2\nthen weld the rod", "claim on 3\nthen bend the rod", "claim on 4")
        kept = docket.readings(4)
        docket.strike(3)
        self.written(docket, "claim", "a rod", "claim", "a bar", "claim on 1 or 2", "then weld the rod", "then bend the rod", "claim on 3")
        self.same(docket.readings(3), kept)

    def test_one_that_takes_others_besides(self):
        docket = docket_of("claim\na rod", "claim\na cap", "claim\na disc", "claim on 1 or 2 or 3\na plate", "claim on 1 or 2")
        docket.strike(2)
        self.written(docket, "claim", "a rod", "claim", "a disc", "claim on 1 or 2", "a plate", "claim on 1")
        docket.strike(1)
        self.written(docket, "claim", "a disc", "claim on 1", "a plate", "claim", "a rod")

    def test_numbers_above_become_one_less(self):
        docket = docket_of("claim", "claim", "claim", "claim on 1 or 3", "claim on 2 or 3 or 4", "claim on 5")
        docket.strike(2)
        self.written(docket, "claim", "claim", "claim on 1 or 2", "claim on 2 or 3", "claim on 4")

    def test_several_that_take_it(self):
        docket = docket_of("claim\na rod", "claim on 1\na cap", "claim on 2\na disc", "claim on 2\na tube", "claim on 1 or 2\na plate")
        docket.strike(2)
        self.written(docket, "claim", "a rod", "claim on 1", "a cap", "a disc", "claim on 1", "a cap", "a tube", "claim on 1", "a plate")

    def test_more_than_twelve_rows(self):
        seven = ["then weld the rod"] * 7
        docket = docket_of(
            rows("claim", "a rod", *seven[:5]), rows("claim on 1", *seven[:6]), rows("claim on 1", *seven), rows("claim on 1", *seven),
            rows("claim on 1 or 2", *seven), "claim on 2",
        )
        self.refuses(docket, TooBig, {"claim": 3, "row": 0}, docket.strike, 1)
        self.sound(docket)
        docket.strike(3)
        self.refuses(docket, TooBig, {"claim": 3, "row": 0}, docket.strike, 1)
        docket.strike(3)
        docket.strike(1)
        self.written(docket, "claim", "a rod", *["then weld the rod"] * 11, "claim on 1", *seven, "claim on 1")
        self.refuses(docket, TooBig, {"claim": 2, "row": 0}, docket.strike, 1)

    def test_the_number_as_it_was(self):
        twelve = ["then weld the rod"] * 11
        docket = docket_of("claim\na rod", rows("claim", "a rod", *twelve), "claim on 1", "claim on 2", rows("claim on 2", "a cap"))
        self.refuses(docket, TooBig, {"claim": 5, "row": 0}, docket.strike, 2)
        docket = docket_of("claim", rows("claim on 1", "a rod", *twelve), "claim on 1\na rod", "claim on 2\na cap")
        docket.strike(1)
        self.refuses(docket, TooBig, {"claim": 3, "row": 0}, docket.strike, 1)

    def test_no_claim(self):
        docket = docket_of("claim\na rod", "claim")
        for number in (0, 3, -1, -2, 13, 10 ** 30, -(10 ** 30)):
            self.refuses(docket, NoClaim, {"row": 0}, docket.strike, number)
        empty = docket_of()
        for number in (0, 1, -1):
            self.refuses(empty, NoClaim, {"row": 0}, empty.strike, number)


class UndoTest(Asking, unittest.TestCase):
    def test_nothing_to_take_back(self):
        docket = docket_of()
        for _ in range(3):
            self.assertIs(docket.undo(), False)
            self.written(docket)

    def test_an_added_claim(self):
        docket = docket_of("claim\na rod", "claim on 1")
        self.assertIs(docket.undo(), True)
        self.written(docket, "claim", "a rod")
        self.assertIs(docket.undo(), True)
        self.written(docket)
        self.assertIs(docket.undo(), False)

    def test_a_struck_claim(self):
        docket = docket_of("claim\na rod", "claim on 1\na cap", "claim on 1 or 2")
        kept = state(docket)
        docket.strike(1)
        self.assertIs(docket.undo(), True)
        self.same(state(docket), kept)

    def test_several_behind_one_another(self):
        docket = docket_of()
        states = [state(docket)]
        for deed, argument in (
            (docket.add, "claim\na rod"), (docket.add, "claim on 1\na cap"), (docket.strike, 1), (docket.add, "claim on 1\na disc"),
            (docket.strike, 1), (docket.strike, 1), (docket.add, "claim\na tube"),
        ):
            deed(argument)
            states.append(state(docket))
        for kept in reversed(states[:-1]):
            self.assertIs(docket.undo(), True)
            self.same(state(docket), kept)
            self.sound(docket)
        self.assertIs(docket.undo(), False)

    def test_refused_deeds_are_none(self):
        docket = docket_of("claim\na rod", "claim on 1\na cap")
        self.refuses(docket, NoClaim, {"row": 0}, docket.strike, 3)
        self.refuses(docket, BadRow, {"row": 0}, docket.add, "")
        self.refuses(docket, NoKind, {"claim": 3, "row": 0}, docket.add, "claim\na pole")
        self.refuses(docket, NoClaim, {"row": 0}, docket.readings, 3)
        self.assertIs(docket.undo(), True)
        self.written(docket, "claim", "a rod")

    def test_other_deeds_behind_it(self):
        docket = docket_of("claim\na rod", "claim\na cap")
        docket.undo()
        docket.add("claim on 1\na disc")
        docket.strike(1)
        self.written(docket, "claim", "a rod", "a disc")
        self.assertIs(docket.undo(), True)
        self.written(docket, "claim", "a rod", "claim on 1", "a disc")
        self.assertIs(docket.undo(), True)
        self.written(docket, "claim", "a rod")
        self.assertIs(docket.undo(), True)
        self.written(docket)
        self.assertIs(docket.undo(), False)


class KeptTest(Asking, unittest.TestCase):
    def test_kinds_are_kept_as_they_were(self):
        kinds = fresh(KINDS)
        docket = Docket(kinds)
        kinds.clear()
        docket.add("claim\na rod\nthe rod is a bar")
        kinds.append(("pole", ""))
        self.refuses(docket, NoKind, {"claim": 2, "row": 0}, docket.add, "claim\na pole")
        self.same(docket.readings(1), [([("bar",)], [], [], [], [])])
        self.same(kinds, [("pole", "")])

    def test_told_lists_are_the_askers_own(self):
        docket = docket_of("claim\njust 1 rod or cap", "claim on 1\na disc\nthe disc is a disc\nthen weld the disc", "claim on 1 or 2")
        kept = state(docket)
        kept_claims = docket.claims()
        docket.strike(1)
        docket.undo()
        for takes, told in docket.claims():
            takes.append(7)
            for row in told:
                for inner in row:
                    if type(inner) is list:
                        inner.append("pin")
            told.clear()
        docket.claims().clear()
        for number in (1, 2, 3):
            for reading in docket.readings(number):
                for inner in reading:
                    inner.clear()
            docket.readings(number).clear()
        self.same(state(docket), kept)
        self.same(kept_claims, kept[1])

    def test_told_lists_stay_behind_later_deeds(self):
        docket = docket_of("claim\na rod or cap", "claim on 1\na disc")
        told = state(docket)
        kept = fresh(told)
        docket.strike(1)
        docket.add("claim on 1")
        docket.undo()
        docket.undo()
        docket.undo()
        self.same(told, kept)

    def test_two_dockets(self):
        one, other = docket_of("claim\na rod"), docket_of()
        self.written(other)
        other.add("claim\na cap")
        self.written(one, "claim", "a rod")


class DeedsTest(Asking, unittest.TestCase):
    ROWS = ["a rod", "a cap", "just 1 disc", "a big bar", "then weld the rod", "the rod long at least 2", "the rod is a bar", "the cap clip the rod"]

    def made_text(self, source, count):
        takes = sorted(source.sample(range(1, count + 1), min(count, source.choice((0, 0, 1, 1, 1, 2, 3)))))
        first = "claim" + (" on " + " or ".join(map(str, takes)) if takes else "")
        return rows(first, *source.sample(self.ROWS, source.choice((0, 1, 2, 2, 3))))

    # The readings that the promise lets each claim keep, by its number as it was.
    def kept_readings(self, docket, n):
        claims = docket.claims()
        kept = []
        for number in range(1, len(claims) + 1):
            readings = docket.readings(number)
            left = []
            for chain, reading in zip(chains_of(claims, number), readings):
                steps = zip(chain, chain[1:])
                if not any(one == n and claims[other - 1][0] != [n] for one, other in steps):
                    left.append(reading)
            if number != n:
                kept.append(left)
        return kept

    def test_many_deeds(self):
        source = random.Random(9)
        struck = refused = 0
        for _ in range(60):
            docket = Docket(KINDS)
            states = [state(docket)]
            for _ in range(25):
                count = len(docket.claims())
                try:
                    if source.random() < 0.7 or count == 0:
                        docket.add(self.made_text(source, count))
                    else:
                        n = source.randint(1, count)
                        expected = self.kept_readings(docket, n)
                        docket.strike(n)
                        struck += 1
                        self.same([docket.readings(number + 1) for number in range(count - 1)], expected)
                    states.append(state(docket))
                except ClaimError:
                    refused += 1
                self.same(state(docket), states[-1])
                self.sound(docket)
                if source.random() < 0.1:
                    self.assertIs(docket.undo(), len(states) > 1)
                    states = states[:-1] or states
            while len(states) > 1:
                states.pop()
                self.assertIs(docket.undo(), True)
                self.same(state(docket), states[-1])
            self.assertIs(docket.undo(), False)
        self.assertGreater(struck, 150)
        self.assertGreater(refused, 100)


if __name__ == "__main__":
    unittest.main()

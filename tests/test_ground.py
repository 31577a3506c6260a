import copy
import itertools
import unittest

from claimwise.errors import NoGround, NoKind, NoRange, NotUnder, TooBig, TwoGrounds
from claimwise.ground import chains_of, readings_of
from claimwise.tongue import read_claims
from helper import KINDS, Checks


def claims_in(*rows):
    return read_claims("\n".join(rows))


class ChainsTest(Checks, unittest.TestCase):
    def chains(self, rows, number, expected):
        claims = claims_in(*rows)
        kept = copy.deepcopy(claims)
        told = chains_of(claims, number)
        self.same(told, expected)
        self.unshared(told, claims)
        self.same(claims, kept)
        # As many readings as chains.
        self.assertEqual(len(readings_of(KINDS, claims, number)), len(expected))

    def test_without_takes(self):
        self.chains(["claim"], 1, [[1]])
        self.chains(["claim", "claim", "claim on 1"], 2, [[2]])

    def test_takes_one(self):
        rows = ["claim", "claim on 1", "claim on 2", "claim on 1", "claim on 4"]
        self.chains(rows, 2, [[1, 2]])
        self.chains(rows, 3, [[1, 2, 3]])
        self.chains(rows, 4, [[1, 4]])
        self.chains(rows, 5, [[1, 4, 5]])

    def test_takes_several(self):
        rows = ["claim", "claim", "claim", "claim on 1 or 2 or 3", "claim on 1 or 3"]
        self.chains(rows, 4, [[1, 4], [2, 4], [3, 4]])
        self.chains(rows, 5, [[1, 5], [3, 5]])

    def test_takes_of_those_that_take(self):
        rows = ["claim", "claim", "claim on 1 or 2", "claim on 1 or 3", "claim on 2 or 4", "claim on 3 or 4"]
        self.chains(rows, 4, [[1, 4], [1, 3, 4], [2, 3, 4]])
        self.chains(rows, 5, [[2, 5], [1, 4, 5], [1, 3, 4, 5], [2, 3, 4, 5]])
        self.chains(rows, 6, [[1, 3, 6], [2, 3, 6], [1, 4, 6], [1, 3, 4, 6], [2, 3, 4, 6]])

    def test_six_chains(self):
        rows = ["claim"] * 6 + ["claim on 1 or 2 or 3 or 4 or 5 or 6", "claim on 7"]
        self.chains(rows, 7, [[number, 7] for number in range(1, 7)])
        self.chains(rows, 8, [[number, 7, 8] for number in range(1, 7)])
        rows = ["claim", "claim", "claim on 1 or 2", "claim on 1 or 2", "claim on 1 or 2", "claim on 3 or 4 or 5"]
        self.chains(rows, 6, [[1, 3, 6], [2, 3, 6], [1, 4, 6], [2, 4, 6], [1, 5, 6], [2, 5, 6]])

    def test_a_long_chain(self):
        rows = ["claim"] + [f"claim on {number}" for number in range(1, 12)]
        self.chains(rows, 12, [list(range(1, 13))])

    def test_seven_chains(self):
        rows = ["claim"] * 7 + ["claim on 1 or 2 or 3 or 4 or 5 or 6 or 7", "claim on 8", "claim on 1 or 2 or 3"]
        for number in (8, 9):
            self.refused(TooBig, {"claim": number, "row": 0}, chains_of, claims_in(*rows), number)
            self.refused(TooBig, {"claim": number, "row": 0}, readings_of, KINDS, claims_in(*rows), number)
        self.chains(rows, 10, [[1, 10], [2, 10], [3, 10]])
        rows = ["claim", "claim", "claim on 1 or 2", "claim on 1 or 2 or 3", "claim on 3 or 4"]
        self.chains(rows, 5, [[1, 3, 5], [2, 3, 5], [1, 4, 5], [2, 4, 5], [1, 3, 4, 5], [2, 3, 4, 5]])
        rows += ["claim on 1 or 5"]
        self.refused(TooBig, {"claim": 6, "row": 0}, chains_of, claims_in(*rows), 6)

    def test_very_many_chains(self):
        rows = ["claim"]
        for number in range(2, 13):
            rows.append("claim on " + " or ".join(str(taken) for taken in range(1, number)))
        self.chains(rows, 3, [[1, 3], [1, 2, 3]])
        for number in range(5, 13):
            self.refused(TooBig, {"claim": number, "row": 0}, chains_of, claims_in(*rows), number)
        more = [([], [])] + [(list(range(1, number)), []) for number in range(2, 61)]
        self.refused(TooBig, {"claim": 60, "row": 0}, chains_of, more, 60)

    def test_seven_chains_go_ahead_of_all(self):
        takes = "claim on 1 or 2 or 3 or 4 or 5 or 6 or 7"
        for fault in ("a new", "the rod is a bar", "at least 5 rod\na rod"):
            rows = ["claim", fault] + ["claim"] * 6 + [takes, fault]
            self.refused(TooBig, {"claim": 8, "row": 0}, readings_of, KINDS, claims_in(*rows), 8)
            self.refused(TooBig, {"claim": 8, "row": 0}, chains_of, claims_in(*rows), 8)

    def test_no_other_refusal(self):
        rows = ["claim", "a new", "claim on 1", "the rod is a bar"]
        self.same(chains_of(claims_in(*rows), 1), [[1]])
        self.same(chains_of(claims_in(*rows), 2), [[1, 2]])


class ReadingsTest(Checks, unittest.TestCase):
    def readings(self, rows, number, expected):
        claims = claims_in(*rows)
        kinds = copy.deepcopy(KINDS)
        kept = copy.deepcopy(claims)
        told = readings_of(kinds, claims, number)
        with self.subTest(rows=rows):
            self.same(told, expected)
        self.unshared(told, claims, kinds)
        self.same(claims, kept)
        self.same(kinds, KINDS)

    # The one reading of one claim with these rows.
    def reads(self, rows, parts, closed, joins, sizes, steps):
        self.readings(["claim"] + rows, 1, [(parts, closed, joins, sizes, steps)])

    # Told of the rows ahead with this row behind: the steps, which show the group that the ref means.
    def means(self, rows, ref, numbers):
        claims = claims_in("claim", *rows, "then show the " + ref)
        with self.subTest(rows=rows, ref=ref):
            self.same(readings_of(KINDS, claims, 1)[0][4], [("show", number) for number in numbers])

    def test_no_row(self):
        self.reads([], [], [], [], [], [])

    def test_parts(self):
        self.reads(["a rod"], [("rod",)], [], [], [], [])
        self.reads(["a rod or plate or cap"], [("rod", "plate", "cap")], [], [], [], [])
        self.reads(["at least 2 disc or rod", "a cap"], [("disc", "rod"), ("disc", "rod"), ("cap",)], [], [], [], [])
        self.reads(["at least 5 big rod"], [("rod",)] * 5, [], [], [], [])
        self.reads(["a rod", "a rod", "a big rod", "a big rod", "a cap"], [("rod",)] * 4 + [("cap",)], [], [], [], [])

    def test_just(self):
        self.reads(["just 1 rod"], [("rod",)], [(("rod",), (0,))], [], [], [])
        rows = ["a cap", "just 2 big rod or plate", "at least 1 cap", "just 1 disc"]
        parts = [("cap",), ("rod", "plate"), ("rod", "plate"), ("cap",), ("disc",)]
        self.reads(rows, parts, [(("rod", "plate"), (1, 2)), (("disc",), (4,))], [], [], [])

    def test_just_stays_as_it_is(self):
        rows = ["just 2 rod or plate", "the rod is a bar"]
        claims = claims_in("claim", *rows)
        self.refused(NoGround, {"claim": 1, "row": 1, "word": 0}, readings_of, KINDS, claims, 1)
        rows = ["just 2 rod", "the rod is a bar or tube", "just 1 rod", "the tube is a tube"]
        claims = claims_in("claim", *rows)
        self.refused(NoGround, {"claim": 1, "row": 3, "word": 0}, readings_of, KINDS, claims, 1)
        rows = ["just 2 rod", "the rod is a bar or tube", "just 1 plate", "the plate is a disc"]
        parts = [("bar", "tube"), ("bar", "tube"), ("disc",)]
        self.reads(rows, parts, [(("rod",), (0, 1)), (("plate",), (2,))], [], [], [])

    def test_refs_by_label(self):
        rows = ["a big rod", "a small rod", "at least 2 cap", "a big cap"]
        self.means(rows, "big rod", [0])
        self.means(rows, "small rod", [1])
        self.means(rows, "big cap", [4])
        rows = ["a rod", "a big rod"]
        self.means(rows, "big rod", [1])

    def test_refs_by_kind(self):
        rows = ["a rod", "at least 2 plate", "a big cap"]
        self.means(rows, "rod", [0])
        self.means(rows, "plate", [1, 2])
        self.means(rows, "cap", [3])
        self.means(rows, "big cap", [3])

    def test_refs_by_an_upper_kind(self):
        rows = ["a big pin", "a disc", "at least 2 small tube", "a cap"]
        for ref, numbers in (("pin", [0]), ("bar", [0]), ("tube", [2, 3]), ("plate", [1]), ("disc", [1]), ("cap", [4])):
            self.means(rows, ref, numbers)
        for ref, numbers in (("big rod", [0]), ("big bar", [0]), ("small rod", [2, 3])):
            self.means(rows, ref, numbers)

    def test_all_kinds_of_a_group_must_be_under_it(self):
        self.means(["a pin or tube", "a plate or rod", "a plate or disc"], "rod", [0])
        self.means(["a pin or tube", "a plate or rod", "a plate or disc"], "plate", [2])
        self.means(["a pin or bar", "a rod", "a tube or bar"], "bar", [0])

    def test_a_label_may_be_a_kind(self):
        self.means(["a cap rod", "a cap"], "cap", [1])
        self.means(["a cap rod", "a cap"], "cap rod", [0])
        self.means(["a rod cap", "a cap rod"], "rod", [1])

    def test_only_groups_told_ahead(self):
        claims = claims_in("claim", "a rod", "then show the rod", "a rod", "at least 2 small rod")
        self.same(readings_of(KINDS, claims, 1)[0][4], [("show", 0)])

    def test_joins(self):
        self.reads(["a rod", "a cap", "the rod touches the cap"], [("rod",), ("cap",)], [], [("touches", 0, 1)], [], [])
        self.reads(["a rod", "a cap", "the cap touches the rod"], [("rod",), ("cap",)], [], [("touches", 1, 0)], [], [])

    def test_joins_of_groups(self):
        rows = ["at least 2 rod", "a plate", "at least 2 cap", "the cap nail the rod"]
        rows += ["the rod clip the cap", "the plate nail the rod"]
        joins = [("clip", i, j) for i in (0, 1) for j in (3, 4)]
        joins += [("nail", 2, 0), ("nail", 2, 1)] + [("nail", i, j) for i in (3, 4) for j in (0, 1)]
        self.reads(rows, [("rod",)] * 2 + [("plate",)] + [("cap",)] * 2, [], joins, [], [])

    def test_a_group_with_itself(self):
        rows = ["a cap", "at least 3 rod", "the rod touches the rod"]
        joins = [("touches", i, j) for i, j in itertools.permutations((1, 2, 3), 2)]
        self.reads(rows, [("cap",)] + [("rod",)] * 3, [], joins, [], [])
        self.reads(["a rod", "the rod touches the rod"], [("rod",)], [], [], [], [])
        self.reads(["a big bar", "the bar touches the big rod"], [("bar",)], [], [], [], [])

    def test_joins_rise_and_stand_once(self):
        rows = ["a rod", "a cap", "a plate", "the plate x the cap", "the rod x the cap", "the plate x the cap"]
        rows += ["the rod b the cap", "the cap x the rod", "the rod x the cap"]
        joins = [("b", 0, 1), ("x", 0, 1), ("x", 1, 0), ("x", 2, 1)]
        self.reads(rows, [("rod",), ("cap",), ("plate",)], [], joins, [], [])

    def test_sizes(self):
        rows = ["a rod", "a cap", "the cap long from 2 to 7", "the rod wide at least -3", "the rod long at most 0"]
        sizes = [(0, "long", None, 0), (0, "wide", -3, None), (1, "long", 2, 7)]
        self.reads(rows, [("rod",), ("cap",)], [], [], sizes, [])
        rows = ["a rod", "a cap", "the rod wide of 5", "the cap b of -5"]
        self.reads(rows, [("rod",), ("cap",)], [], [], [(0, "wide", 5, 5), (1, "b", -5, -5)], [])

    def test_sizes_of_a_group(self):
        rows = ["a cap", "at least 3 rod", "the rod long at least 2", "the cap long at most 1", "the rod b of 0"]
        sizes = [(0, "long", None, 1)]
        for number in (1, 2, 3):
            sizes += [(number, "b", 0, 0), (number, "long", 2, None)]
        self.reads(rows, [("cap",)] + [("rod",)] * 3, [], [], sizes, [])

    def test_the_sharper_bounds_hold(self):
        cases = [
            (["at least 2", "at least 5"], (5, None)), (["at least 5", "at least 2"], (5, None)),
            (["at most 2", "at most 5"], (None, 2)), (["at most 5", "at most 2"], (None, 2)),
            (["at least 2", "at most 5"], (2, 5)), (["at most 5", "at least 2"], (2, 5)),
            (["from 2 to 9", "from 4 to 11"], (4, 9)), (["from 4 to 11", "from 2 to 9"], (4, 9)),
            (["from 2 to 9", "from 4 to 5"], (4, 5)), (["from 4 to 5", "from 2 to 9"], (4, 5)),
            (["from 2 to 9", "of 2"], (2, 2)), (["of 9", "from 2 to 9"], (9, 9)), (["of 3", "of 3"], (3, 3)),
            (["at least 0", "at least -4"], (0, None)), (["at most 0", "at most 4"], (None, 0)),
            (["at least -4", "at most 0", "at least -1", "at most -1"], (-1, -1)),
            (["at most 5", "at least 5"], (5, 5)),
        ]
        for bounds, (lo, hi) in cases:
            rows = ["at least 2 rod"] + ["the rod long " + bound for bound in bounds]
            self.reads(rows, [("rod",)] * 2, [], [], [(0, "long", lo, hi), (1, "long", lo, hi)], [])

    def test_bounds_told_in_a_claim_that_takes(self):
        rows = ["claim", "a rod", "the rod long from 2 to 9", "claim on 1", "the rod long at least 4"]
        rows += ["claim on 2", "the rod long at most 6", "the rod wide of 1"]
        for number, sizes in ((1, [(0, "long", 2, 9)]), (2, [(0, "long", 4, 9)]), (3, [(0, "long", 4, 6), (0, "wide", 1, 1)])):
            self.readings(rows, number, [([("rod",)], [], [], sizes, [])])

    def test_is_rows(self):
        self.reads(["at least 2 rod", "the rod is a bar"], [("bar",)] * 2, [], [], [], [])
        self.reads(["a rod", "the rod is a pin or tube"], [("pin", "tube")], [], [], [], [])
        self.reads(["a rod", "the rod is a tube or bar or pin"], [("tube", "bar", "pin")], [], [], [], [])
        self.reads(["a rod", "the rod is a rod"], [("rod",)], [], [], [], [])
        self.reads(["a bar or tube", "the rod is a pin"], [("pin",)], [], [], [], [])
        self.reads(["a rod", "the rod is a bar or tube", "the rod is a pin"], [("pin",)], [], [], [], [])
        self.reads(["a rod", "a cap", "the rod is a pin"], [("pin",), ("cap",)], [], [], [], [])

    def test_what_a_ref_means_behind_an_is_row(self):
        rows = ["a big rod", "a small rod", "the big rod is a bar"]
        self.means(rows, "bar", [0])
        self.means(rows, "big bar", [0])
        self.means(rows, "big rod", [0])
        self.means(rows + ["the small rod is a tube"], "tube", [1])
        claims = claims_in("claim", "a big rod", "a small rod", "then show the bar", "the big rod is a bar")
        self.refused(NoGround, {"claim": 1, "row": 2, "word": 0}, readings_of, KINDS, claims, 1)
        claims = claims_in("claim", "a big rod", "a small rod", "the big rod is a bar", "then show the rod")
        self.refused(TwoGrounds, {"claim": 1, "row": 3, "word": 0}, readings_of, KINDS, claims, 1)

    def test_steps(self):
        rows = ["at least 2 rod", "a cap", "then weld the rod", "then bend the cap", "then weld the cap", "then weld the rod"]
        steps = [("weld", 0), ("weld", 1), ("bend", 2), ("weld", 2), ("weld", 0), ("weld", 1)]
        self.reads(rows, [("rod",)] * 2 + [("cap",)], [], [], [], steps)

    def test_all_together(self):
        rows = ["at least 2 rod or plate", "just 1 big cap", "a disc", "the disc nail the cap", "then weld the big cap"]
        rows += ["the cap wide at most 3", "then bend the disc", "the disc deep of 0"]
        parts = [("rod", "plate")] * 2 + [("cap",), ("disc",)]
        sizes = [(2, "wide", None, 3), (3, "deep", 0, 0)]
        self.reads(rows, parts, [(("cap",), (2,))], [("nail", 3, 2)], sizes, [("weld", 2), ("bend", 3)])

    def test_several_chains(self):
        rows = ["claim", "at least 2 big rod", "claim", "just 1 small rod", "the rod long of 1", "then weld the rod"]
        rows += ["claim on 1", "the rod is a tube", "then bend the rod", "claim on 2 or 3", "a cap", "the cap clip the rod"]
        rows += ["the rod long at most 5", "claim on 1 or 4", "then burn the rod"]
        one = ([("rod",)] * 2, [], [], [], [("burn", 0), ("burn", 1)])
        small = ([("rod",), ("cap",)], [(("rod",), (0,))], [("clip", 1, 0)], [(0, "long", 1, 1)], [("weld", 0)])
        sizes = [(0, "long", None, 5), (1, "long", None, 5)]
        tubes = ([("tube",)] * 2 + [("cap",)], [], [("clip", 2, 0), ("clip", 2, 1)], sizes, [("bend", 0), ("bend", 1)])
        self.readings(rows, 4, [small, tubes])
        burnt = [small[:4] + (small[4] + [("burn", 0)],), tubes[:4] + (tubes[4] + [("burn", 0), ("burn", 1)],)]
        self.readings(rows, 5, [one] + burnt)

    def test_chains_alike_share_no_list(self):
        body = ["at least 2 rod", "the rod x the rod", "the rod long of 1", "then weld the rod"]
        rows = ["claim"] + body + ["claim on 1", "claim on 1", "claim on 1 or 2 or 3"]
        reading = ([("rod",)] * 2, [], [("x", 0, 1), ("x", 1, 0)], [(0, "long", 1, 1), (1, "long", 1, 1)])
        reading += ([("weld", 0), ("weld", 1)],)
        self.readings(rows, 4, [reading, reading, reading])

    def test_two_askings_share_no_list(self):
        claims = claims_in("claim", "just 1 rod", "the rod long of 1", "then weld the rod")
        first = readings_of(KINDS, claims, 1)
        second = readings_of(KINDS, claims, 1)
        self.unshared(first, second, claims)
        kept = copy.deepcopy(second)
        for found in first[0]:
            found.clear()
        self.same(second, kept)
        self.same(readings_of(KINDS, claims, 1), kept)
        chains = chains_of(claims, 1)
        chains[0].append(7)
        self.same(chains_of(claims, 1), [[1]])


class RefusingTest(Checks, unittest.TestCase):
    def refuses(self, rows, number, refusal, claim, row, word=None):
        fields = {"claim": claim, "row": row} if word is None else {"claim": claim, "row": row, "word": word}
        with self.subTest(rows=rows):
            self.refused(refusal, fields, readings_of, KINDS, claims_in(*rows), number)

    # The row stands behind those ahead: alone, with good rows behind, and with a row at fault behind.
    # Then with the rows ahead in a claim that is taken, and the whole of it in a claim that is taken.
    def refuses_row(self, ahead, row, refusal, word=None):
        place = len(ahead)
        for behind in ([], ["a cap"], ["a new"], ["then weld the new"], ["at least 5 cap", "a cap"]):
            self.refuses(["claim"] + ahead + [row] + behind, 1, refusal, 1, place, word)
        self.refuses(["claim"] + ahead + ["claim", "claim on 1", row], 3, refusal, 3, 0, word)
        self.refuses(["claim"] + ahead + [row, "claim on 1", "a new"], 2, refusal, 1, place, word)
        self.refuses(["claim", "claim on 1"] + ahead + [row, "claim on 2", "claim on 3"], 4, refusal, 2, place, word)

    def test_no_kind(self):
        two = ["a rod", "a cap"]
        for row in (
            "a new", "a big new", "a new or rod", "a rod or new", "a rod or cap or new", "at least 2 new", "just 1 new",
            "the new clip the cap", "the rod clip the new", "the big new clip the cap", "the new clip the old",
            "the new long of 1", "the new is a bar", "the rod is a new", "the rod is a bar or new", "then weld the new",
            "then weld the big new",
        ):
            self.refuses_row(two, row, NoKind)

    def test_labels_and_other_words_are_no_kinds(self):
        claims = claims_in("claim", "a new rod", "a old cap", "the new rod young the old cap", "the rod hard of 1", "then boil the cap")
        self.assertEqual(len(readings_of(KINDS, claims, 1)), 1)

    def test_no_ground(self):
        for ahead in ([], ["a cap"], ["a small rod"], ["a plate", "a cap or rod"]):
            for row in ("the big rod clip the cap", "the big rod long of 1", "the big rod is a bar", "then weld the big rod"):
                self.refuses_row(ahead, row, NoGround, 0)
        for ahead in (["a rod"], ["a rod", "a small cap"], ["a rod", "a big plate"], ["a rod", "a big cap or disc"]):
            self.refuses_row(ahead, "the rod clip the big cap", NoGround, 1)

    def test_no_ground_by_a_lower_kind(self):
        self.refuses_row(["a rod"], "then weld the bar", NoGround, 0)
        self.refuses_row(["a pin"], "then weld the tube", NoGround, 0)
        self.refuses_row(["a bar or tube"], "then weld the bar", NoGround, 0)
        self.refuses_row(["a rod or cap"], "then weld the cap", NoGround, 0)

    def test_no_ground_told_behind(self):
        self.refuses(["claim", "then weld the rod", "a rod"], 1, NoGround, 1, 0, 0)
        self.refuses(["claim", "a cap", "the cap clip the rod", "a rod"], 1, NoGround, 1, 1, 1)

    def test_no_ground_in_a_claim_that_is_not_taken(self):
        self.refuses(["claim", "a rod", "claim", "then weld the rod"], 2, NoGround, 2, 0, 0)
        self.refuses(["claim", "a rod", "claim on 1", "a cap", "claim on 1", "then weld the cap"], 3, NoGround, 3, 0, 0)

    def test_two_grounds(self):
        for ahead in (["a rod", "a rod"], ["a rod", "a big rod"], ["a big rod", "a small rod"], ["a pin", "a tube or bar"]):
            for row in ("the rod clip the rod", "the rod long of 1", "the rod is a pin", "then weld the rod"):
                self.refuses_row(ahead, row, TwoGrounds, 0)
            self.refuses_row(ahead + ["a cap"], "the rod clip the cap", TwoGrounds, 0)
            self.refuses_row(ahead + ["a cap"], "the cap clip the rod", TwoGrounds, 1)
        self.refuses_row(["a big rod", "a big bar"], "then weld the big rod", TwoGrounds, 0)
        self.refuses_row(["a rod", "a rod", "a rod"], "then weld the rod", TwoGrounds, 0)

    def test_not_under(self):
        self.refuses_row(["a rod"], "the rod is a cap", NotUnder)
        self.refuses_row(["a rod"], "the rod is a bar or cap", NotUnder)
        self.refuses_row(["a rod"], "the rod is a cap or bar", NotUnder)
        self.refuses_row(["a bar"], "the bar is a rod", NotUnder)
        self.refuses_row(["a bar"], "the rod is a rod", NotUnder)
        self.refuses_row(["a pin or tube"], "the rod is a bar", NotUnder)
        self.refuses_row(["a pin or tube"], "the rod is a pin or tube or bar", NotUnder)

    def test_not_under_the_kinds_by_then(self):
        self.refuses_row(["a rod", "the rod is a tube"], "the rod is a bar", NotUnder)
        self.refuses_row(["a rod", "the rod is a tube"], "the tube is a rod", NotUnder)
        self.refuses_row(["just 1 rod or bar", "the rod is a bar or tube"], "the rod is a rod", NotUnder)

    def test_no_range(self):
        for bounds, bound in (
            (["at least 5"], "at most 4"), (["at most 4"], "at least 5"), (["of 4"], "of 5"), (["of 5"], "of 4"),
            (["from 2 to 4"], "from 5 to 9"), (["from 5 to 9"], "from 2 to 4"), (["at most 0"], "at least 1"),
            (["at least 0"], "at most -1"), (["from 2 to 9", "at least 7"], "at most 6"), (["of 0"], "at least 1"),
        ):
            ahead = ["at least 2 rod"] + ["the rod long " + told for told in bounds]
            self.refuses_row(ahead, "the rod long " + bound, NoRange)

    def test_bounds_of_another_word_or_part_are_no_matter(self):
        rows = ["claim", "a rod", "a cap", "the rod long at least 5", "the rod wide at most 1", "the cap long at most 1"]
        self.assertEqual(len(readings_of(KINDS, claims_in(*rows), 1)), 1)

    def test_too_big(self):
        for ahead, row in (
            (["at least 5 rod"], "a cap"), (["at least 5 rod"], "just 1 cap"), (["at least 4 rod"], "at least 2 cap"),
            (["at least 4 rod"], "just 2 rod"), (["a rod"], "at least 5 cap"), (["just 3 rod", "a cap"], "just 5 plate"),
            (["a rod"] * 5, "a rod"),
        ):
            self.refuses_row(ahead, row, TooBig)

    def test_several_reasons_in_one_row(self):
        two = ["a rod", "a rod", "a cap"]
        for row in ("the rod clip the new", "the new clip the rod", "the plate clip the new", "the new clip the plate"):
            self.refuses_row(two, row, NoKind)
        for row in ("the plate is a new", "the rod is a new", "the cap is a rod or new", "the cap is a new or rod"):
            self.refuses_row(two, row, NoKind)
        self.refuses_row(["at least 5 rod"], "a new", NoKind)
        self.refuses_row(["at least 4 rod"], "just 2 cap or new", NoKind)

    def test_the_first_ref_goes_ahead_of_the_second(self):
        two = ["a rod", "a rod", "a cap", "a cap"]
        self.refuses_row(two, "the plate clip the disc", NoGround, 0)
        self.refuses_row(two, "the plate clip the rod", NoGround, 0)
        self.refuses_row(two, "the rod clip the plate", TwoGrounds, 0)
        self.refuses_row(two, "the rod clip the cap", TwoGrounds, 0)

    def test_refs_go_ahead_of_the_others(self):
        self.refuses_row(["a rod", "a rod"], "the rod is a cap", TwoGrounds, 0)
        self.refuses_row(["a rod", "a rod"], "the plate is a cap", NoGround, 0)
        ahead = ["a rod", "the rod long of 4", "a rod"]
        self.refuses_row(ahead, "the rod long of 5", TwoGrounds, 0)
        self.refuses_row(ahead, "the plate long of 5", NoGround, 0)

    def test_a_fault_in_the_second_chain_alone(self):
        rows = ["claim", "a rod", "claim", "a cap", "claim on 1 or 2", "a plate", "then weld the rod"]
        self.assertEqual(len(readings_of(KINDS, claims_in(*rows), 1)), 1)
        self.refuses(rows, 3, NoGround, 3, 1, 0)
        rows = ["claim", "a rod", "claim", "a rod", "a tube", "claim on 1 or 2", "then weld the rod"]
        self.refuses(rows, 3, TwoGrounds, 3, 0, 0)
        rows = ["claim", "a rod", "claim", "a tube", "claim on 1 or 2", "the rod is a bar"]
        self.refuses(rows, 3, NotUnder, 3, 0)
        rows = ["claim", "a rod", "claim", "a rod", "the rod long of 1", "claim on 1 or 2", "the rod long of 2"]
        self.refuses(rows, 3, NoRange, 3, 0)
        rows = ["claim", "a rod", "claim", "at least 3 rod", "claim on 1 or 2", "a cap", "at least 2 cap"]
        self.refuses(rows, 3, TooBig, 3, 1)
        rows = ["claim", "a rod", "claim", "a rod", "a new", "claim on 1 or 2", "the rod long of 2"]
        self.refuses(rows, 3, NoKind, 2, 1)

    def test_the_first_chain_at_fault_is_refused(self):
        rows = ["claim", "a rod", "a cap", "claim", "a new", "claim on 1 or 2", "then weld the plate"]
        self.refuses(rows, 3, NoGround, 3, 0, 0)
        rows = ["claim", "a new", "claim", "a rod", "a cap or old", "claim on 2", "a plate", "claim on 1 or 3"]
        self.refuses(rows, 4, NoKind, 1, 0)
        self.refuses(rows, 3, NoKind, 2, 1)
        rows += ["claim on 2 or 4"]
        self.refuses(rows, 5, NoKind, 2, 1)

    def test_a_claim_that_is_not_taken_is_no_matter(self):
        rows = ["claim", "a new", "claim", "a rod", "claim on 2", "claim on 3", "a new"]
        self.assertEqual(len(readings_of(KINDS, claims_in(*rows), 3)), 1)

    def test_kinds_are_those_handed_in(self):
        claims = claims_in("claim", "a rod", "a bar", "then weld the rod")
        self.refused(TwoGrounds, {"claim": 1, "row": 2, "word": 0}, readings_of, KINDS, claims, 1)
        told = readings_of([("rod", ""), ("bar", "")], claims, 1)
        self.same(told, [([("rod",), ("bar",)], [], [], [], [("weld", 0)])])
        self.refused(NoKind, {"claim": 1, "row": 1}, readings_of, [("rod", "")], claims, 1)
        self.refused(NoKind, {"claim": 1, "row": 0}, readings_of, [], claims, 1)

    def test_the_first_row_at_fault_is_refused(self):
        faults = [
            ("a new", NoKind, None), ("then weld the plate", NoGround, 0), ("the cap clip the plate", NoGround, 1),
            ("then weld the rod", TwoGrounds, 0), ("the cap clip the rod", TwoGrounds, 1), ("the cap is a rod", NotUnder, None),
            ("the cap long of 2", NoRange, None), ("at least 3 plate", TooBig, None),
        ]
        ahead = ["a rod", "a bar", "a cap", "the cap long of 1"]
        for (one, refusal, word), (other, _, _) in itertools.product(faults, faults):
            self.refuses(["claim"] + ahead + [one, other], 1, refusal, 1, 4, word)
            self.refuses(["claim"] + ahead + ["claim on 1", one, other], 2, refusal, 2, 0, word)


if __name__ == "__main__":
    unittest.main()

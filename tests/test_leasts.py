import copy
import random
import unittest

from claimwise.errors import TooMany
from claimwise.ground import readings_of
from claimwise.leasts import least_things
from claimwise.tongue import read_claims
from helper import EMPTY, KINDS, THIRTY, Checks, fresh, leasts_of, made_reading, reading_in

BIG = int(THIRTY)
NOTHING = ([], [], [], [], [])


# A reading of one rod with these bounds of its sizes.
def sized(*bounds):
    return ([("rod",)], [], [], [(0,) + bound for bound in bounds], [])


def rod(*sizes):
    return ([("rod", list(sizes))], [], [])


# Parts with so many kinds each, and so many sizes from 0 to 9 of the words b, c, d ..
def with_choices(kind_counts, size_count):
    kinds = [word for word, upper in KINDS]
    parts = [tuple(kinds[:count]) for count in kind_counts]
    return (parts, [], [], [(0, "bcdefghi"[number], 0, 9) for number in range(size_count)], [])


def cut_at(word, *numbers):
    return [sized((word, number, None)) for number in numbers]


class LeastThingsTest(Checks, unittest.TestCase):
    def tells(self, one, other, expected):
        handed = fresh((KINDS, one, other))
        with self.subTest(one=one, other=other):
            told = least_things(*handed)
            self.same(told, expected)
            self.unshared(told, *handed)
            self.same(handed, (KINDS, one, other))
            self.same(leasts_of(one, other), expected)

    def numbers(self, bounds, other, expected):
        self.tells([sized(("long",) + bounds)], other, [(0, rod(("long", number))) for number in expected])

    def kinds(self, reading, expected):
        self.tells([reading], [NOTHING], [(0, ([(kind, []) for kind in kinds.split()], [], [])) for kinds in expected])

    def test_a_reading_without_parts(self):
        self.tells([NOTHING], [NOTHING], [(0, EMPTY)])
        self.tells([NOTHING], [reading_in("just 1 rod")], [(0, EMPTY)])
        self.tells([NOTHING, NOTHING], [NOTHING], [(0, EMPTY), (1, EMPTY)])

    def test_one_kind_a_part(self):
        self.kinds(reading_in("a rod"), ["rod"])
        self.kinds(reading_in("a rod", "at least 2 cap", "a bar"), ["rod cap cap bar"])

    def test_several_kinds_a_part(self):
        self.kinds(reading_in("a cap or rod or bar"), ["cap", "rod", "bar"])
        self.kinds(reading_in("a cap or bar", "a pin"), ["cap pin", "bar pin"])

    def test_the_last_part_changes_first(self):
        self.kinds(reading_in("a rod or cap", "a pin or bar"), ["rod pin", "rod bar", "cap pin", "cap bar"])
        self.kinds(
            reading_in("a rod or cap", "a disc", "at least 2 pin or bar"),
            ["rod disc pin pin", "rod disc pin bar", "rod disc bar pin", "rod disc bar bar",
             "cap disc pin pin", "cap disc pin bar", "cap disc bar pin", "cap disc bar bar"],
        )

    def test_joins_and_steps_are_those_of_the_reading(self):
        reading = reading_in("a rod", "a cap", "the rod clip the cap", "the cap nail the rod", "then weld the cap", "then bend the rod")
        thing = ([("rod", []), ("cap", [])], [("clip", 0, 1), ("nail", 1, 0)], [("weld", 1), ("bend", 0)])
        self.tells([reading], [NOTHING], [(0, thing)])

    def test_both_bounds(self):
        self.numbers((2, 7), [NOTHING], [2])
        self.numbers((2, 7), cut_at("long", 4), [2, 4])
        self.numbers((2, 7), cut_at("long", 7), [2, 7])
        self.numbers((4, 4), cut_at("long", 3, 4, 5), [4])

    def test_a_lo_alone(self):
        self.numbers((2, None), [NOTHING], [2])
        self.numbers((2, None), cut_at("long", 1, 2, 3, 99), [2, 3, 99])
        self.numbers((-2, None), cut_at("long", -3, 0), [-2, 0])

    def test_a_hi_alone(self):
        self.numbers((None, 7), [NOTHING], [6])
        self.numbers((None, 7), cut_at("long", 7), [6, 7])
        self.numbers((None, 7), cut_at("long", 8), [6])
        self.numbers((None, 7), cut_at("long", 9), [6])
        self.numbers((None, 7), cut_at("long", 3, 5), [2, 3, 5])
        self.numbers((None, 7), cut_at("long", 3, 8), [2, 3])
        self.numbers((None, 0), cut_at("long", -4), [-5, -4])

    def test_cuts_from_lo_and_from_hi_and_one(self):
        self.numbers((0, 9), [sized(("long", 3, None))], [0, 3])
        self.numbers((0, 9), [sized(("long", None, 3))], [0, 4])
        self.numbers((0, 9), [sized(("long", 3, 5))], [0, 3, 6])
        self.numbers((0, 9), [sized(("long", 3, 3))], [0, 3, 4])
        self.numbers((None, 9), [sized(("long", None, 3))], [3, 4])
        self.numbers((None, 9), [sized(("long", None, 9))], [8])
        self.numbers((None, 9), [sized(("long", None, 8))], [8, 9])

    def test_cuts_of_all_readings_and_parts(self):
        two = reading_in("a rod", "a cap", "the rod long from 2 to 4", "the cap long at least 7")
        self.numbers((0, 9), [two], [0, 2, 5, 7])
        self.numbers((0, 9), [NOTHING, sized(("long", 8, None)), two, sized(("long", 1, 1))], [0, 1, 2, 5, 7, 8])

    def test_each_number_once(self):
        self.numbers((0, 9), cut_at("long", 3, 3, 0, 0) + [sized(("long", None, 2))], [0, 3])

    def test_cuts_outside_the_range(self):
        self.numbers((3, 5), cut_at("long", 2, 6, -1, 100), [3])
        self.numbers((3, 5), [sized(("long", None, 1)), sized(("long", None, 5))], [3])
        self.numbers((3, 5), [sized(("long", None, 2)), sized(("long", None, 4))], [3, 5])

    def test_cuts_of_another_word(self):
        self.numbers((3, 9), cut_at("wide", 4, 5) + cut_at("long", 6), [3, 6])
        self.numbers((None, 9), cut_at("wide", 4, 5), [8])

    def test_the_others_ranges_may_be_empty(self):
        self.numbers((0, 9), [sized(("long", 7, 4))], [0, 5, 7])

    def test_thirty_figures(self):
        self.numbers((-BIG, BIG), [sized(("long", -BIG, BIG - 1)), sized(("long", 0, BIG))], [-BIG, 0, BIG])
        self.numbers((None, -BIG), [sized(("long", None, -BIG))], [-BIG - 1])
        self.numbers((None, BIG), cut_at("long", -BIG), [-BIG - 1, -BIG])

    def test_two_sizes_of_one_part(self):
        other = [sized(("long", 3, None), ("wide", None, 5))]
        expected = [(0, rod(("long", a), ("wide", b))) for a, b in ((0, 1), (0, 6), (3, 1), (3, 6))]
        self.tells([sized(("long", 0, 9), ("wide", 1, 9))], other, expected)

    def test_sizes_of_two_parts(self):
        one = reading_in("a rod", "a cap", "the cap long from 1 to 4", "the rod wide at least 5")
        other = [reading_in("a rod", "the rod long from 3 to 3", "the rod wide at most 8")]
        expected = []
        for wide, long in ((5, 1), (5, 3), (5, 4), (9, 1), (9, 3), (9, 4)):
            expected.append((0, ([("rod", [("wide", wide)]), ("cap", [("long", long)])], [], [])))
        self.tells([one], other, expected)

    def test_numbers_change_ahead_of_kinds(self):
        expected = [(0, ([(kind, [("long", number)])], [], [])) for kind, number in (("rod", 2), ("rod", 4), ("cap", 2), ("cap", 4))]
        self.tells([([("rod", "cap")], [], [], [(0, "long", 2, 9)], [])], cut_at("long", 4), expected)

    def test_left_out_by_closed_pairs(self):
        self.kinds(reading_in("just 1 rod", "a cap or bar"), ["rod cap"])
        self.kinds(reading_in("a cap or bar or rod", "just 1 bar"), ["cap bar", "rod bar"])
        self.kinds(reading_in("just 1 rod", "a bar"), [])
        self.kinds(reading_in("just 2 rod or cap"), ["rod rod", "rod cap", "cap rod", "cap cap"])
        self.kinds(reading_in("just 1 rod or cap", "just 1 cap or plate"), ["rod plate"])
        self.kinds(reading_in("just 1 rod", "the rod is a bar", "a plate or tube"), ["bar plate"])

    # A part is changed so that its closed pair no longer takes it; then the parts may be found the other way about.
    def test_left_out_by_steps(self):
        both = [("rod", "cap"), ("rod", "cap")]
        closed = [(("rod",), (0,))]
        self.kinds((both, closed, [], [], []), ["rod cap", "cap rod", "cap cap"])
        for joins, steps in (([], [("weld", 0)]), ([("clip", 0, 1)], []), ([], [("weld", 1), ("bend", 0)])):
            expected = [(0, ([(one, []), (other, [])], joins, steps)) for one, other in (("rod", "cap"), ("cap", "cap"))]
            self.tells([(both, closed, joins, [], steps)], [NOTHING], expected)

    def test_a_lo_above_a_hi(self):
        self.numbers((7, 4), [NOTHING], [])
        self.numbers((7, 4), cut_at("long", 4, 5, 7), [])
        self.tells([sized(("long", 7, 4), ("wide", 0, 9))], [NOTHING], [])
        self.tells([sized(("long", 7, 4)), sized(("long", 4, 7))], [NOTHING], [(1, rod(("long", 4)))])

    def test_several_readings(self):
        one = [reading_in("a cap or pin"), reading_in("just 1 rod", "a bar"), sized(("long", 0, 5)), NOTHING]
        expected = [(0, ([("cap", [])], [], [])), (0, ([("pin", [])], [], [])), (2, rod(("long", 0))), (2, rod(("long", 2))), (3, EMPTY)]
        self.tells(one, cut_at("long", 2), expected)

    def test_the_readings_of_claims(self):
        claims = read_claims("claim\na rod\nclaim\na cap\nclaim on 1 or 2\na plate\nclaim\na rod\nthe rod long of 3")
        first = ([("rod", []), ("plate", [])], [], [])
        second = ([("cap", []), ("plate", [])], [], [])
        self.tells(readings_of(KINDS, claims, 3), readings_of(KINDS, claims, 4), [(0, first), (1, second)])

    def test_held_against_all_choices(self):
        source = random.Random(12)
        many = 0
        for _ in range(400):
            one = [made_reading(source) for _ in range(source.randint(1, 2))]
            other = [made_reading(source) for _ in range(source.randint(1, 3))]
            expected = leasts_of(one, other)
            many += len(expected) > 3
            self.same(least_things(KINDS, one, other), expected)
        self.assertGreater(many, 50)

    def test_two_askings_share_nothing(self):
        one = [reading_in("a rod or cap", "a cap", "the cap long at least 1", "then weld the cap")]
        first = least_things(KINDS, one, one)
        kept = copy.deepcopy(first)
        for number, thing in first:
            thing[0][1][1].append(("wide", 1))
            thing[0].append(("pin", []))
            thing[1].append(("clip", 0, 1))
            thing[2].clear()
        first.clear()
        self.same(least_things(KINDS, one, one), kept)


class TooManyTest(Checks, unittest.TestCase):
    def count(self, one, other, expected):
        self.assertEqual(len(least_things(KINDS, one, other)), expected)

    def test_just_two_hundred(self):
        two = with_choices((2, 2, 2), 2)
        other = cut_at("b", 1, 2, 3, 4) + cut_at("c", 5, 6, 7, 8)
        self.count([two], other, 200)
        self.refused(TooMany, {}, least_things, KINDS, [two, NOTHING], other)
        self.refused(TooMany, {}, least_things, KINDS, [NOTHING, two], other)

    def test_added_over_the_readings(self):
        half = with_choices((2, 2), 2)
        other = cut_at("b", 1, 2, 3, 4) + cut_at("c", 5, 6, 7, 8)
        self.count([half, half], other, 200)
        self.refused(TooMany, {}, least_things, KINDS, [half, NOTHING, half], other)

    def test_by_kinds_alone(self):
        self.count([with_choices((3, 3, 3, 3, 2), 0)], [NOTHING], 162)
        self.refused(TooMany, {}, least_things, KINDS, [with_choices((3, 3, 3, 3, 3), 0)], [NOTHING])

    def test_by_numbers_alone(self):
        other = cut_at("b", *range(1, 10)) + cut_at("c", *range(1, 10)) + cut_at("d", 1)
        self.count([with_choices((1,), 3)], other, 200)
        self.refused(TooMany, {}, least_things, KINDS, [with_choices((1,), 3)], other + cut_at("d", 2))

    def test_those_left_out_count(self):
        shut = [(("rod", "bar", "tube"), (0,))]
        parts = [("rod",)] + [("rod", "bar", "cap"), ("bar", "tube", "plate"), ("tube", "rod", "disc")]
        sizes = [(0, "b", 0, 9), (1, "c", 0, 9)]
        reading = (parts, shut, [], sizes, [])
        self.count([reading], cut_at("b", 1) + cut_at("c", 1, 2), 6)
        self.refused(TooMany, {}, least_things, KINDS, [reading], cut_at("b", 1) + cut_at("c", 1, 2, 3))
        nothing = ([("rod",), ("bar",), ("rod", "bar", "cap"), ("rod", "bar", "cap"), ("rod", "bar", "cap")], shut, [], sizes, [])
        self.count([nothing], cut_at("b", 1) + cut_at("c", 1, 2), 0)
        self.refused(TooMany, {}, least_things, KINDS, [nothing], cut_at("b", 1) + cut_at("c", 1, 2, 3))

    def test_far_too_many(self):
        reading = with_choices((3, 3, 3, 3, 3), 8)
        other = []
        for word in "bcdefghi":
            other += cut_at(word, *range(1, 10))
        self.refused(TooMany, {}, least_things, KINDS, [reading], other)

    # An empty range leaves no choice at all, however many there are of the others.
    def test_an_empty_range_counts_nothing(self):
        reading = with_choices((3, 3, 3, 3, 3), 8)
        reading[3].append((0, "z", 5, 4))
        other = []
        for word in "bcdefghi":
            other += cut_at(word, *range(1, 10))
        self.count([reading], other, 0)
        self.count([reading, with_choices((2, 2, 2), 2)], cut_at("b", 1, 2, 3, 4) + cut_at("c", 1, 2, 3, 4), 200)


if __name__ == "__main__":
    unittest.main()

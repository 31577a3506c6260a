import copy
import itertools
import random
import unittest

from claimwise.covering import covers, finding_in
from claimwise.ground import readings_of
from claimwise.tongue import read_claims
from helper import EMPTY, KINDS, THIRTY, Checks, first_of_all, made_reading, made_thing, reading_in, thing_in, under

BIG = int(THIRTY)


class FindingTest(Checks, unittest.TestCase):
    def finds(self, reading, thing, expected):
        handed = (copy.deepcopy(KINDS), copy.deepcopy(reading), copy.deepcopy(thing))
        with self.subTest(reading=reading, thing=thing):
            told = finding_in(*handed)
            self.same(told, expected)
            self.unshared(told, *handed)
            self.same(handed, (KINDS, reading, thing))
            self.assertEqual(first_of_all(reading, thing), expected)

    def test_a_reading_without_parts(self):
        self.finds(([], [], [], [], []), EMPTY, [])
        self.finds(([], [], [], [], []), thing_in("part rod", "part cap", "step weld 0"), [])

    def test_a_thing_without_parts(self):
        self.finds(reading_in("a rod"), EMPTY, None)
        self.finds(reading_in("just 1 rod"), EMPTY, None)

    def test_kinds(self):
        for kind, upper in KINDS:
            for other, _ in KINDS:
                self.finds(reading_in("a " + other), thing_in("part " + kind), [0] if under(kind, other) else None)

    def test_one_of_several_kinds(self):
        for kinds, kind, expected in (
            ("cap or rod", "rod", [0]), ("cap or rod", "pin", [0]), ("cap or rod", "cap", [0]), ("cap or bar", "tube", None),
            ("cap or tube or plate", "disc", [0]), ("cap or tube or plate", "tube", [0]), ("cap or tube or disc", "plate", None),
        ):
            self.finds(reading_in("a " + kinds), thing_in("part " + kind), expected)

    def test_each_part_is_found_for_one_alone(self):
        self.finds(reading_in("at least 2 rod"), thing_in("part rod"), None)
        self.finds(reading_in("at least 2 rod"), thing_in("part rod", "part cap", "part bar"), [0, 2])
        self.finds(reading_in("a rod", "a rod", "a bar"), thing_in("part rod", "part bar"), None)

    def test_all_parts_are_found(self):
        self.finds(reading_in("a rod", "a cap"), thing_in("part rod", "part bar", "part pin"), None)
        self.finds(reading_in("at least 5 rod"), thing_in(*["part rod"] * 4), None)
        self.finds(reading_in("at least 5 rod"), thing_in(*["part rod"] * 8), [0, 1, 2, 3, 4])

    def test_the_first_finding_of_several(self):
        self.finds(reading_in("a rod", "a bar"), thing_in("part pin", "part pin", "part pin"), [0, 1])
        self.finds(reading_in("a rod", "a bar"), thing_in("part bar", "part rod", "part tube"), [1, 0])
        self.finds(reading_in("a bar", "a rod"), thing_in("part tube", "part bar", "part bar"), [1, 0])
        rows = ["part rod"] * 4 + ["join clip 3 1", "join clip 1 3", "join clip 2 0"]
        self.finds(reading_in("a big rod", "a small rod", "the big rod clip the small rod"), thing_in(*rows), [1, 3])
        self.finds(reading_in("a big rod", "a small rod", "the small rod clip the big rod"), thing_in(*rows), [0, 2])

    def test_a_first_choice_is_taken_back(self):
        rows = ["part rod"] * 3 + ["join clip 0 1", "join clip 1 2", "join nail 2 0"]
        claim = ["a big rod", "a rod", "a small rod", "the big rod clip the small rod"]
        self.finds(reading_in(*claim), thing_in(*rows), [0, 2, 1])
        claim = ["a big rod", "a mid rod", "a small rod", "the big rod clip the mid rod", "the mid rod clip the small rod"]
        self.finds(reading_in(*claim), thing_in(*rows), [0, 1, 2])
        claim[3:] = ["the mid rod clip the big rod", "the big rod clip the small rod", "the small rod nail the mid rod"]
        self.finds(reading_in(*claim), thing_in(*rows), [1, 0, 2])

    def test_bounds_count(self):
        for bound, lo, hi in (
            ("from 2 to 5", 2, 5), ("at least 2", 2, None), ("at most 5", None, 5), ("of 0", 0, 0), ("at least 0", 0, None),
            ("at most 0", None, 0), ("from -3 to -2", -3, -2), (f"of {THIRTY}", BIG, BIG), (f"at most -{THIRTY}", None, -BIG),
        ):
            reading = reading_in("a rod", "the rod long " + bound)
            for number in (-4, -3, -2, -1, 0, 1, 2, 3, 4, 5, 6, BIG - 1, BIG, BIG + 1, -BIG, 1 - BIG):
                inside = (lo is None or lo <= number) and (hi is None or number <= hi)
                self.finds(reading, ([("rod", [("long", number)])], [], []), [0] if inside else None)

    def test_a_bounded_size_is_there(self):
        reading = reading_in("a rod", "the rod long at least 0")
        self.finds(reading, thing_in("part rod"), None)
        self.finds(reading, thing_in("part rod", "size wide 5"), None)
        self.finds(reading, thing_in("part rod", "part cap", "size long 5"), None)
        self.finds(reading, thing_in("part rod", "part bar", "size long 0"), [1])
        self.finds(reading, thing_in("part rod", "size b 1", "size long 0", "size wide -1"), [0])

    def test_each_bounded_size_of_each_part(self):
        reading = reading_in("at least 2 rod", "the rod long of 1", "the rod wide at most 2", "a cap", "the cap long of 3")
        good = ["part rod", "size long 1", "size wide 2"]
        cap = ["part cap", "size long 3"]
        self.finds(reading, thing_in(*good, *cap, *good), [0, 2, 1])
        self.finds(reading, thing_in(*good, *cap, "part rod", "size long 1", "size wide 3"), None)
        self.finds(reading, thing_in(*good, *cap, "part rod", "size long 2", "size wide 2"), None)
        self.finds(reading, thing_in(*good, *good, "part cap", "size long 1"), None)
        self.finds(reading, thing_in(*good, "part rod", *good, *cap), [0, 2, 3])

    def test_a_lo_above_a_hi_covers_nothing(self):
        for number in range(8):
            self.finds(([("rod",)], [], [], [(0, "long", 5, 2)], []), ([("rod", [("long", number)])], [], []), None)

    def test_joins(self):
        reading = reading_in("a rod", "a cap", "the rod clip the cap")
        parts = ["part cap", "part rod"]
        self.finds(reading, thing_in(*parts), None)
        self.finds(reading, thing_in(*parts, "join clip 1 0"), [1, 0])
        self.finds(reading, thing_in(*parts, "join clip 0 1"), None)
        self.finds(reading, thing_in(*parts, "join nail 1 0"), None)
        self.finds(reading, thing_in(*parts, "part rod", "join clip 2 0"), [2, 0])
        self.finds(reading, thing_in(*parts, "part cap", "part rod", "join clip 1 3", "join clip 3 2"), [3, 2])

    def test_each_join(self):
        reading = reading_in("a rod", "a cap", "the rod clip the cap", "the cap clip the rod", "the rod nail the cap")
        joins = ["join clip 0 1", "join clip 1 0", "join nail 0 1"]
        self.finds(reading, thing_in("part rod", "part cap", *joins), [0, 1])
        for left_out in joins:
            rows = [row for row in joins if row != left_out]
            self.finds(reading, thing_in("part rod", "part cap", *rows), None)

    def test_joins_of_a_group_with_itself(self):
        reading = reading_in("at least 3 rod", "the rod clip the rod")
        pairs = list(itertools.permutations((0, 2, 3), 2))
        rows = ["part rod", "part rod", "part bar", "part tube"] + [f"join clip {i} {j}" for i, j in pairs]
        self.finds(reading, thing_in(*rows), [0, 2, 3])
        self.finds(reading, thing_in(*rows[:-1]), None)

    def test_steps_in_their_order(self):
        reading = reading_in("a rod", "a cap", "then weld the rod", "then bend the cap", "then weld the rod")
        parts = ["part rod", "part cap"]
        weld = "step weld 0"
        bend = "step bend 1"
        self.finds(reading, thing_in(*parts, weld, bend, weld), [0, 1])
        self.finds(reading, thing_in(*parts, "step burn 0", weld, "step weld 1", bend, "step bend 0", weld, weld), [0, 1])
        for rows in ([], [weld, bend], [bend, weld], [weld, weld, bend], [bend, weld, weld], [weld, weld], [weld, "step bend 0", weld]):
            self.finds(reading, thing_in(*parts, *rows), None)
        self.finds(reading, thing_in(*parts, bend, weld, weld, bend, weld), [0, 1])

    def test_one_step_does_not_count_twice(self):
        reading = reading_in("a rod", "then weld the rod", "then weld the rod")
        self.finds(reading, thing_in("part rod", "step weld 0"), None)
        self.finds(reading, thing_in("part rod", "step weld 0", "step weld 0"), [0])
        self.finds(reading, thing_in("part rod", "part rod", "step weld 0", "step weld 1"), None)
        self.finds(reading, thing_in("part rod", "part rod", "step weld 1", "step weld 0", "step weld 1"), [1])

    def test_steps_lead_to_a_later_finding(self):
        reading = reading_in("at least 2 rod", "then weld the rod")
        self.finds(reading, thing_in("part rod", "part rod", "part rod", "step weld 2", "step weld 1", "step weld 0"), [1, 0])
        self.finds(reading, thing_in("part rod", "part rod", "part rod", "step weld 2", "step weld 0", "step weld 1"), [0, 1])

    def test_closed_kinds(self):
        for many in range(1, 6):
            reading = reading_in(f"just {many} rod")
            for count in range(1, 8):
                expected = list(range(many)) if count == many else None
                self.finds(reading, thing_in(*["part rod"] * count), expected)

    def test_every_part_under_a_closed_kind_counts(self):
        reading = reading_in("just 1 rod")
        self.finds(reading, thing_in("part cap", "part rod", "part plate"), [1])
        for kind in ("rod", "bar", "tube", "pin"):
            self.finds(reading, thing_in("part rod", "part cap", "part " + kind), None)
        self.finds(reading_in("just 1 bar"), thing_in("part rod", "part tube", "part pin"), [2])
        self.finds(reading_in("just 1 bar or cap"), thing_in("part rod", "part cap"), [1])
        self.finds(reading_in("just 1 bar or cap"), thing_in("part bar", "part cap"), None)

    def test_closed_kinds_stay_as_told_behind_an_is_row(self):
        reading = reading_in("just 1 rod", "the rod is a bar")
        self.finds(reading, thing_in("part bar"), [0])
        self.finds(reading, thing_in("part rod"), None)
        self.finds(reading, thing_in("part bar", "part tube"), None)

    def test_found_for_another_number_is_not_enough(self):
        self.finds(reading_in("just 1 rod", "a rod"), thing_in("part rod", "part rod"), None)
        self.finds(reading_in("just 1 bar", "a rod"), thing_in("part bar", "part tube"), [0, 1])
        self.finds(reading_in("a rod", "just 1 bar"), thing_in("part bar", "part tube"), [1, 0])
        self.finds(reading_in("a rod", "just 1 bar"), thing_in("part bar", "part pin"), None)
        self.finds(reading_in("just 1 rod", "just 1 bar"), thing_in("part bar", "part tube"), None)

    def test_closed_numbers_with_bounds(self):
        reading = reading_in("just 1 rod", "the rod long of 1")
        self.finds(reading, thing_in("part rod", "part rod", "size long 1"), None)
        self.finds(reading, thing_in("part rod", "size long 1"), [0])

    # Such a reading comes of a change of kind: the closed pair stays, and no part can be found for it any more.
    def test_a_closed_pair_whose_part_has_another_kind(self):
        reading = ([("cap",)], [(("rod",), (0,))], [], [], [])
        self.finds(reading, thing_in("part cap"), [0])
        self.finds(reading, thing_in("part cap", "part rod"), None)

    def test_a_part_that_is_not_told_is_no_matter(self):
        rows = ["part cap", "size long 9", "part rod", "part cap", "join nail 0 1", "step burn 2"]
        self.finds(reading_in("a rod"), thing_in(*rows), [1])

    def test_a_greater_thing(self):
        parts = [("cap", []) for _ in range(7)] + [("rod", [("long", number)]) for number in range(13)]
        joins = [("clip", number, number + 1) for number in range(19)]
        steps = [("weld", number) for number in range(19, -1, -1)]
        reading = reading_in("a big rod", "a rod", "the big rod long at least 5", "then weld the big rod")
        self.finds(reading, (parts, joins, steps), [12, 7])

    def test_held_against_all_lists_of_parts(self):
        source = random.Random(5)
        found = 0
        for _ in range(3000):
            reading = made_reading(source)
            thing = made_thing(source)
            expected = first_of_all(reading, thing)
            found += expected is not None and expected != []
            self.same(finding_in(KINDS, reading, thing), expected)
        self.assertGreater(found, 300)

    def test_two_askings_share_no_list(self):
        for reading in (reading_in("a rod"), ([], [], [], [], [])):
            first = finding_in(KINDS, reading, thing_in("part rod"))
            first.append(7)
            self.assertNotEqual(finding_in(KINDS, reading, thing_in("part rod")), first)


class CoversTest(Checks, unittest.TestCase):
    def tells(self, readings, thing, expected):
        handed = (copy.deepcopy(KINDS), copy.deepcopy(readings), copy.deepcopy(thing))
        told = covers(*handed)
        self.same(told, expected)
        self.unshared(told, *handed)
        self.same(handed, (KINDS, readings, thing))

    def test_no_readings(self):
        self.tells([], EMPTY, None)
        self.tells([], thing_in("part rod"), None)

    def test_the_first_reading(self):
        readings = [reading_in("a rod"), reading_in("a cap"), reading_in("a rod")]
        self.tells(readings, thing_in("part cap", "part rod"), (0, [1]))
        self.tells(readings, thing_in("part bar"), (0, [0]))

    def test_a_later_reading(self):
        readings = [reading_in("a tube"), reading_in("at least 3 rod"), reading_in("a cap", "a rod"), reading_in("a rod")]
        self.tells(readings, thing_in("part rod", "part cap"), (2, [1, 0]))
        self.tells(readings, thing_in("part rod"), (3, [0]))
        self.tells(readings, thing_in("part tube", "part rod", "part rod"), (0, [0]))
        self.tells(readings, thing_in("part bar", "part rod", "part rod"), (1, [0, 1, 2]))

    def test_none_of_them(self):
        readings = [reading_in("a tube"), reading_in("at least 3 rod"), reading_in("just 1 bar")]
        self.tells(readings, thing_in("part rod", "part bar", "part pin"), (1, [0, 1, 2]))
        self.tells(readings, thing_in("part bar", "part pin"), None)
        self.tells(readings, EMPTY, None)

    def test_a_reading_without_parts(self):
        nothing = ([], [], [], [], [])
        self.tells([nothing], EMPTY, (0, []))
        self.tells([reading_in("a rod"), nothing], thing_in("part cap"), (1, []))

    def test_the_readings_of_a_claim(self):
        text = "claim\na rod\nclaim\na cap\nclaim on 1 or 2\na plate\nclaim on 3\nthen weld the plate"
        readings = readings_of(KINDS, read_claims(text), 4)
        self.tells(readings, thing_in("part cap", "part disc", "step weld 1"), (1, [0, 1]))
        self.tells(readings, thing_in("part cap", "part disc", "part pin", "step weld 1"), (0, [2, 1]))
        self.tells(readings, thing_in("part cap", "part disc", "part pin", "step weld 2"), None)

    def test_two_askings_share_no_list(self):
        readings = [reading_in("a rod")]
        first = covers(KINDS, readings, thing_in("part rod"))
        first[1].append(7)
        self.same(covers(KINDS, readings, thing_in("part rod")), (0, [0]))


if __name__ == "__main__":
    unittest.main()

import random
import time
import unittest

from claimwise.covering import covers
from claimwise.errors import TooMany
from claimwise.narrowing import narrower
from helper import (
    EMPTY, KINDS, THIRTY, Checks,
    bare_things, fresh, is_thing, leasts_of, made_reading, reading_covering, readings_in,
)

BIG = int(THIRTY)
NOTHING = ([], [], [], [], [])
SECONDS = 10


def named(readings):
    return readings_in(*readings) if type(readings[0]) is str else readings


class Asking(Checks):
    def asked(self, one, other):
        handed = fresh((KINDS, one, other))
        told = narrower(*handed)
        self.assertIs(type(told), tuple)
        self.assertIs(type(told[0]), bool)
        self.assertEqual(len(told), 2)
        self.unshared(told, *handed)
        self.same(handed, (KINDS, one, other))
        return told

    def is_narrower(self, one, other):
        one, other = named(one), named(other)
        with self.subTest(one=one, other=other):
            papers = [(thing,) + reading_covering(other, thing) for number, thing in leasts_of(one, other)]
            self.same(self.asked(one, other), (True, papers))

    def is_not(self, one, other):
        one, other = named(one), named(other)
        with self.subTest(one=one, other=other):
            told, thing = self.asked(one, other)
            self.assertIs(told, False)
            self.assertTrue(is_thing(thing), thing)
            self.assertIsNotNone(reading_covering(one, thing))
            self.assertIsNone(reading_covering(other, thing))
            return thing

    # The first narrower than the second, and not the other way about.
    def below(self, one, other):
        self.is_narrower(one, other)
        return self.is_not(other, one)


class NarrowerTest(Asking, unittest.TestCase):
    def test_the_same(self):
        for text in (
            "a rod", "at least 5 rod", "just 2 rod", "a rod or cap", "", "a rod; the rod long from 2 to 5; then weld the rod",
            "at least 3 rod; the rod clip the rod; then weld the rod; then bend the rod", "just 1 rod; the rod is a bar; a cap",
            "just 1 rod; just 2 cap; the rod clip the cap; the cap long at most 5",
        ):
            self.is_narrower([text], [text])
            self.is_narrower([text, text], [text])
            self.is_narrower([text], [text, text])

    def test_told_in_another_order(self):
        self.is_narrower(["a rod; a cap; the rod clip the cap"], ["a cap; a rod; the rod clip the cap"])
        self.is_narrower(["just 1 cap; just 1 rod"], ["just 1 rod; just 1 cap"])
        self.is_narrower(["a rod or cap"], ["a cap or rod"])
        self.is_narrower(["a rod", "a cap"], ["a cap", "a rod"])

    def test_a_reading_without_parts(self):
        self.is_narrower([""], [""])
        self.below(["a rod"], [""])
        self.below(["just 1 rod"], [""])
        self.same(narrower(KINDS, [NOTHING], [NOTHING]), (True, [(EMPTY, 0, [])]))

    def test_a_lower_kind(self):
        self.below(["a bar"], ["a rod"])
        self.below(["a pin"], ["a rod"])
        self.below(["a pin; a tube"], ["at least 2 rod"])
        self.below(["a rod"], ["a rod or cap"])
        self.below(["a bar or tube"], ["a rod"])
        self.below(["a cap; a pin"], ["a cap or plate; a bar or tube"])
        self.is_narrower(["a rod or bar"], ["a rod"])
        self.is_narrower(["a rod"], ["a bar or rod"])

    def test_kinds_that_are_apart(self):
        for one, other in (("bar", "tube"), ("rod", "cap"), ("disc", "cap"), ("tube", "pin")):
            self.is_not(["a " + one], ["a " + other])
            self.is_not(["a " + other], ["a " + one])

    def test_a_part_more(self):
        self.below(["a rod; a cap"], ["a rod"])
        self.below(["at least 3 rod"], ["at least 2 rod"])
        self.below(["at least 5 bar"], ["at least 4 rod"])

    def test_a_join_more(self):
        self.below(["a rod; a cap; the rod clip the cap"], ["a rod; a cap"])
        self.below(["at least 2 rod; the rod clip the rod"], ["a big rod; a small rod; the big rod clip the small rod"])
        self.is_not(["a rod; a cap; the rod clip the cap"], ["a rod; a cap; the cap clip the rod"])
        self.is_not(["a rod; a cap; the rod clip the cap"], ["a rod; a cap; the rod nail the cap"])

    def test_a_sharper_bound(self):
        for one, other in (
            ("from 3 to 5", "from 2 to 5"), ("from 2 to 4", "from 2 to 5"), ("of 2", "from 2 to 3"), ("at least 3", "at least 2"),
            ("at most 2", "at most 3"), ("from 2 to 5", "at least 2"), ("from 2 to 5", "at most 5"), ("of -1", "at most 0"),
            (f"of {THIRTY}", f"at least {THIRTY}"), (f"at most -{THIRTY}", f"at most {THIRTY}"),
        ):
            self.below(["a rod; the rod long " + one], ["a rod; the rod long " + other])
            self.below(["a rod; the rod long " + other], ["a rod"])
            self.is_not(["a rod; the rod long " + one], ["a rod; the rod wide " + other])

    def test_bounds_open_on_either_side(self):
        for one, other in (("at least 2", "at most 9"), ("at most 9", "from 2 to 9"), ("at least 2", "from 2 to 9")):
            self.is_not(["a rod; the rod long " + one], ["a rod; the rod long " + other])
        self.is_narrower(["a rod; the rod long at least 0"], ["a rod; the rod long from 0 to 8", "a rod; the rod long at least 9"])
        self.is_not(["a rod; the rod long at least 0"], ["a rod; the rod long from 0 to 7", "a rod; the rod long at least 9"])
        self.is_narrower(["a rod; the rod long at most 0"], ["a rod; the rod long from -8 to 5", "a rod; the rod long at most -9"])
        self.is_not(["a rod; the rod long at most 0"], ["a rod; the rod long from -8 to 0", "a rod; the rod long from -99 to -9"])
        self.is_not(["a rod; the rod long at most 0"], ["a rod; the rod long at least -99"])
        self.is_not(["a rod; the rod long at least 0"], ["a rod; the rod long at most 99"])

    def test_two_bounds_of_the_same_word(self):
        other = ["a rod; the rod long at least 5", "a cap; the cap long at most 4"]
        self.is_not(["a rod; a cap; the rod long at most 9; the cap long from 0 to 9"], other)
        self.is_narrower(["a rod; a cap; the rod long from 3 to 9; the cap long at most 4"], other)

    def test_a_step_more(self):
        self.below(["a rod; then weld the rod"], ["a rod"])
        self.below(["a rod; then weld the rod; then bend the rod"], ["a rod; then bend the rod"])
        self.below(["a rod; then weld the rod; then weld the rod"], ["a rod; then weld the rod"])
        self.is_not(["a rod; then weld the rod; then bend the rod"], ["a rod; then bend the rod; then weld the rod"])
        weld = "then weld the rod; then weld the cap"
        self.below(["a rod; a cap; " + weld + "; then weld the rod"], ["a rod; a cap; " + weld])
        self.is_narrower(["at least 2 rod; then weld the rod"], ["a big rod; a small rod; then weld the small rod; then weld the big rod"])

    def test_a_closed_pair_more(self):
        self.below(["just 1 rod"], ["a rod"])
        self.below(["just 3 rod"], ["at least 2 rod"])
        self.below(["just 1 rod; just 1 cap"], ["just 1 rod; a cap"])
        self.below(["just 1 rod"], ["a rod", "a cap"])
        self.below(["just 1 rod; the rod is a bar"], ["just 1 bar"])

    def test_by_several_readings_together(self):
        halves = ["a rod; the rod long from 0 to 4", "a rod; the rod long from 5 to 9"]
        whole = ["a rod; the rod long from 0 to 9"]
        self.is_narrower(whole, halves)
        self.is_narrower(halves, whole)
        for half in halves:
            self.is_not(whole, [half])
        self.is_not(whole, ["a rod; the rod long from 0 to 3", halves[1]])
        self.is_narrower(["a bar or tube"], ["a bar", "a tube"])
        self.is_narrower(["a bar or tube; a cap"], ["a cap; a bar", "a tube"])
        self.is_not(["a bar or tube"], ["a tube"])

    # A part may be of the upper kind itself.
    def test_the_lower_kinds_do_not_make_up_the_upper_one(self):
        self.is_not(["a rod"], ["a bar", "a tube"])
        self.is_not(["a plate"], ["a disc"])
        self.is_not(["just 1 plate"], ["just 1 disc"])

    def test_kinds_and_bounds_together(self):
        other = ["a bar; the bar long at least 3", "a tube", "a bar; the bar long at most 2"]
        self.is_narrower(["a bar or tube; the rod long from 0 to 9"], other)
        self.is_not(["a bar or tube"], other)
        self.is_not(["a bar or tube; the rod long from 0 to 9"], other[:2])

    def test_papers(self):
        one = ["a bar or tube; the rod long from 0 to 9", "a cap; a bar"]
        other = ["a tube; the tube long at most 4", "a rod; the rod long at least 0", "a rod; a cap"]
        things = [([(kind, [("long", number)])], [], []) for kind in ("bar", "tube") for number in (0, 5)]
        papers = [(things[0], 1, [0]), (things[1], 1, [0]), (things[2], 0, [0]), (things[3], 1, [0])]
        papers.append((([("cap", []), ("bar", [])], [], []), 2, [1, 0]))
        self.same(self.asked(named(one), named(other)), (True, papers))

    def test_papers_tell_the_first_finding(self):
        thing = ([("rod", [])] * 3, [("clip", 1, 2)], [])
        one = [([("rod",)] * 3, [], [("clip", 1, 2)], [], [])]
        other = readings_in("a cap", "a big rod; a small rod", "a rod")
        self.same(self.asked(one, other), (True, [(thing, 1, [0, 1])]))
        other = readings_in("a cap", "a rod; a big rod; a small rod; the big rod clip the small rod")
        self.same(self.asked(one, other), (True, [(thing, 1, [0, 1, 2])]))

    def test_what_covers_nothing_is_narrower(self):
        nothing = [([("rod",)], [], [], [(0, "long", 5, 2)], [])]
        for one in (nothing, readings_in("just 1 rod; a bar"), nothing + nothing):
            self.same(self.asked(one, readings_in("a cap")), (True, []))
            self.same(self.asked(one, nothing), (True, []))
        self.is_not(readings_in("a rod"), nothing)
        self.is_not(readings_in(""), nothing)
        self.is_narrower(nothing + readings_in("a bar"), nothing + readings_in("a rod"))

    def test_each_reading_of_the_first_counts(self):
        self.is_not(["a rod", "a cap"], ["a rod"])
        self.is_not(["a cap", "a rod"], ["a rod"])
        self.is_narrower(["a bar", "a rod; a cap", "at least 2 rod"], ["a rod"])

    def test_too_many(self):
        five = [([("rod", "cap", "plate")] * 5, [], [], [], [])]
        self.refused(TooMany, {}, narrower, KINDS, five, readings_in("a rod"))
        self.refused(TooMany, {}, narrower, KINDS, readings_in("a tube") + five, readings_in("a rod"))
        self.refused(TooMany, {}, narrower, KINDS, five, five)
        self.assertIs(narrower(KINDS, readings_in("a pin"), five)[0], False)

    def test_told_is_the_askers_own(self):
        one = readings_in("a bar or tube; a cap; the rod clip the cap; the cap long at least 2; then weld the cap")
        for other in readings_in(""), readings_in("a tube"), readings_in("a rod; just 1 cap"):
            kept = fresh(narrower(KINDS, one, other))
            told = narrower(KINDS, one, other)
            for thing in [paper[0] for paper in told[1]] if told[0] else [told[1]]:
                for part in thing[0]:
                    part[1].clear()
                for inner in thing:
                    inner.clear()
            self.same(narrower(KINDS, one, other), kept)


class ClosedTest(Asking, unittest.TestCase):
    # What the others shut, a part more opens: the least things alone don't show it.
    def test_a_part_more_of_a_kind_that_is_shut(self):
        self.is_not(["a rod"], ["just 1 rod"])
        self.is_not(["at least 5 rod"], ["just 5 rod"])
        self.is_not(["a cap"], ["just 1 cap"])
        self.is_not(["a rod; a cap"], ["just 1 rod; just 1 cap"])
        self.is_not(["a rod; just 1 cap"], ["just 1 rod; just 1 cap"])
        self.is_not(["a rod; a cap; the rod clip the cap; then weld the rod"], ["just 1 rod; a cap; the rod clip the cap"])
        self.is_not(["a pin; the pin long from 0 to 9"], ["just 1 rod; the rod long from 0 to 4", "just 1 rod; the rod long at least 5"])

    def test_a_part_more_of_a_lower_kind(self):
        self.is_not(["just 1 rod; a cap"], ["just 1 rod; just 1 cap"])
        self.is_not(["a bar; just 1 tube"], ["just 1 rod or tube; the rod is a bar; a tube", "just 2 rod; a tube", "just 1 bar; a tube"])

    def test_room_for_no_part_more(self):
        self.is_narrower(["just 1 rod"], ["just 1 rod"])
        self.is_narrower(["just 1 rod; the rod is a bar"], ["just 1 bar"])
        self.is_narrower(["just 1 rod; the rod is a pin"], ["just 1 bar", "a cap"])
        self.is_narrower(["just 1 rod or cap; a plate"], ["just 1 rod; a plate", "just 1 cap"])
        self.is_narrower(["just 2 rod"], ["just 2 rod", "just 1 rod"])
        self.is_not(["just 1 bar"], ["just 1 rod"])
        self.is_not(["just 1 rod"], ["just 1 rod or cap"])

    def test_two_kinds_shut_in_one_pair(self):
        self.is_not(["just 1 rod"], ["just 1 rod or cap"])
        self.is_not(["just 1 cap; a rod"], ["just 2 rod or cap"])
        self.is_narrower(["just 2 rod or cap; a plate"], ["just 2 cap or rod"])

    def test_another_reading_takes_the_part_more(self):
        self.is_narrower(["a rod"], ["just 1 rod", "at least 2 rod"])
        self.is_not(["a rod"], ["just 1 rod", "at least 3 rod"])
        self.is_not(["a rod"], ["just 1 rod", "just 2 rod"])
        self.is_narrower(["a rod"], ["just 1 rod", "just 2 rod", "at least 3 rod"])
        self.is_narrower(["a rod"], ["at least 4 rod", "just 3 rod", "just 2 rod", "just 1 rod"])
        self.is_not(["a rod"], ["at least 5 rod", "just 3 rod", "just 2 rod", "just 1 rod"])

    def test_a_part_more_for_each_reading(self):
        for kinds in (("rod", "cap"), ("rod", "cap", "plate"), ("rod", "cap", "plate", "disc")):
            shut = [";".join(("just 1 " if kind == one else "a ") + one for one in kinds) for kind in kinds]
            thing = self.is_not([";".join("a " + kind for kind in kinds)], shut)
            self.assertGreater(len(thing[0]), len(kinds))
        thing = self.is_not(["a rod; a cap"], ["just 1 rod; a cap", "a rod; just 1 cap"])
        self.assertEqual(len(thing[0]), 4)
        self.is_narrower(["a rod; a cap"], ["just 1 rod; a cap", "a rod; just 1 cap", "at least 2 rod; at least 2 cap"])
        self.is_not(["a rod; a cap"], ["just 1 rod; a cap", "a rod; just 1 cap", "at least 3 rod; at least 2 cap"])
        self.is_not(["a rod; a cap"], ["just 1 rod; a cap", "a rod; just 1 cap", "at least 2 bar; at least 2 cap"])

    def test_one_part_more_for_several_readings(self):
        self.is_not(["a bar; a tube"], ["just 1 bar; a tube", "a bar; just 1 tube", "just 2 rod"])
        self.is_not(["a pin"], ["just 1 rod", "just 1 bar", "just 1 pin"])
        self.is_not(["a pin"], ["just 1 rod", "just 1 bar", "just 1 pin", "a tube", "at least 2 rod; a cap"])
        self.is_narrower(["a pin"], ["just 1 rod", "just 1 bar", "just 1 pin", "at least 2 rod"])
        self.is_not(["a pin"], ["just 1 rod", "just 1 pin", "at least 3 rod", "a pin; a bar; just 1 tube"])

    # The part more has to be one that the other readings can't use: of the kinds shut, not each will do.
    def test_which_kind_the_part_more_has(self):
        self.is_not(["a cap"], ["just 1 cap or rod or plate", "at least 2 cap", "a rod"])
        self.is_not(["a cap"], ["just 1 cap or rod or plate", "a plate", "a rod"])
        self.is_narrower(["a cap"], ["just 1 cap or rod or plate", "a plate", "a rod", "at least 2 cap"])
        self.is_not(["a cap"], ["just 1 cap or rod", "a bar", "a tube", "at least 2 cap"])
        self.is_not(["a plate; just 1 cap"], ["just 1 plate", "at least 2 plate; a rod; just 1 cap", "a disc"])

    def test_a_part_of_a_lower_kind_in_its_place(self):
        one = [([("bar",), ("rod",)], [(("rod",), (0, 1))], [], [], [])]
        other = [([("bar",), ("rod",)], [(("bar",), (0,))], [], [], [])]
        thing = self.is_not(one, other)
        self.assertEqual(len(thing[0]), 2)
        ahead = [([("rod",), ("bar",)], [(("rod",), (0, 1))], [("clip", 0, 1)], [], [("weld", 1)])]
        self.assertEqual(len(self.is_not(ahead, other)[0]), 2)
        self.is_narrower(one, other + readings_in("at least 2 bar"))
        self.is_not(one, other + readings_in("at least 2 pin"))
        self.is_narrower(one, ["just 2 rod or bar"])
        other = [([("pin",), ("rod",)], [(("pin",), (0,))], [], [], [])]
        self.is_not([([("pin",), ("rod",)], [(("rod",), (0, 1))], [], [], [])], other)
        self.is_not([([("pin",), ("rod",)], [(("rod",), (0, 1))], [], [], [])], other + readings_in("at least 2 rod; a cap"))

    def test_a_lower_kind_that_the_first_shuts_as_well(self):
        pair = [(("rod",), (0, 1)), (("bar",), (0,))]
        one = [([("bar",), ("rod",)], pair, [], [], [])]
        self.is_narrower(one, [([("bar",), ("rod",)], [(("bar",), (0,))], [], [], [])])
        self.is_narrower(one, [([("bar",), ("rod",)], [(("pin", "bar"), (0,))], [], [], [])])
        self.is_not(one, [([("bar",), ("rod",)], [(("bar", "tube"), (0,))], [], [], [])])

    def test_a_part_more_made_lower_step_by_step(self):
        self.is_not(["a pin; a cap"], ["just 1 rod; a cap", "just 1 bar; a cap", "just 1 pin; a cap", "a tube"])
        self.is_not(["a pin; a cap"], ["just 1 rod", "just 1 pin", "at least 2 rod; the rod long at least 0"])

    def test_joins_steps_and_sizes_with_closed_pairs(self):
        bound = "a rod; a cap; the rod clip the cap; the rod long from 2 to 5; then weld the cap"
        shut = bound.replace("a rod", "just 1 rod")
        self.is_not([bound], [shut])
        self.is_narrower([shut], [bound])
        self.is_narrower([bound], [shut, "at least 2 rod"])
        self.is_not([bound], [shut, "at least 2 rod; the rod long at least 2"])
        self.is_not([bound], [shut, "at least 2 rod; the rod clip the rod"])
        joined = "a rod; a cap; the rod clip the cap; the cap clip the rod; the rod nail the cap; then weld the cap; then bend the cap"
        self.is_not([joined + "; then burn the rod"], [joined.replace("a rod", "just 1 rod")])
        self.is_narrower([bound], [shut, "a big rod; a small rod; a cap; the small rod clip the cap; then weld the cap"])

    def test_the_first_readings_own_room(self):
        self.is_narrower(["just 1 rod; a cap", "just 2 rod; a cap"], ["just 1 rod", "just 2 rod"])
        self.is_not(["just 1 rod; a cap", "a rod; a plate"], ["just 1 rod", "just 2 rod"])

    # Closed pairs come so of changes of kinds: the parts with their numbers are no longer under their kinds.
    def test_closed_pairs_whose_parts_have_other_kinds(self):
        odd = [([("cap",)], [(("rod",), (0,))], [], [], [])]
        self.is_narrower(odd, ["a cap"])
        self.is_not(["a cap"], odd)
        self.is_narrower(odd, odd)
        self.is_narrower(readings_in("a cap"), odd + readings_in("a rod"))
        self.is_not(readings_in("a cap"), odd + readings_in("a bar"))
        pair = [(("rod", "disc"), (0,))]
        one = [([("rod", "plate"), ("rod", "plate")], pair, [], [], [])]
        self.is_narrower(one, [([("rod",), ("plate",)], pair, [], [], [])] + readings_in("at least 2 plate"))
        self.is_not(one, [([("rod",), ("plate",)], pair, [], [], [])])


class AllThingsTest(Checks, unittest.TestCase):
    def made_list(self, source):
        readings = []
        while not readings or source.random() < 0.6:
            parts, closed, joins, sizes, steps = made_reading(source)
            readings.append((parts, closed, [], [], []))
        return readings

    # Without sizes, joins and steps: six parts are more than any of these readings tells apart.
    def test_bare_things(self):
        source = random.Random(3)
        things = list(bare_things([kind for kind, upper in KINDS[:5]], 6))
        told = []
        for _ in range(250):
            one, other = self.made_list(source), self.made_list(source)
            first = [thing for thing in things if covers(KINDS, one, thing) is not None]
            lacking = [thing for thing in first if covers(KINDS, other, thing) is None]
            told.append(narrower(KINDS, one, other)[0])
            self.assertEqual(told[-1], lacking == [], (one, other))
        self.assertGreater(told.count(True), 40)
        self.assertGreater(told.count(False), 40)


class TimeTest(Checks, unittest.TestCase):
    def soon(self, one, other, expected):
        began = time.monotonic()
        told = narrower(KINDS, one, other)
        self.assertLess(time.monotonic() - began, SECONDS)
        self.assertEqual((told[0], len(told[1]) if told[0] else None), expected)

    def test_five_parts_with_joins_and_steps(self):
        rods = [("rod",)] * 5
        ring = [("clip", i, (i + 1) % 5) for i in range(5)]
        steps = [("weld", i) for i in range(5)] * 4
        sizes = [(0, "long", 0, 99), (1, "long", 0, 99)]
        one = [(rods, [], sorted(ring), sizes, steps)]
        twice = [("clip", 3, 4), ("clip", 4, 3)]
        cuts = (rods, [], twice, [(i, "long", 10 * i + 3, 10 * i + 6) for i in range(5)], [])
        other = [(rods, [], twice, [], steps[::-1])] * 4 + [cuts, (rods, [], [("clip", 3, 4)], [], steps)]
        self.soon(one, other, (True, 121))

    def test_two_hundred_with_closed_pairs(self):
        parts = [("rod", "cap"), ("rod", "plate"), ("rod", "tube"), ("bar",), ("disc",)]
        sizes = [(3, "long", 0, 99), (4, "long", 0, 99)]
        one = [(parts, [], [("clip", 3, 4)], sizes, [("weld", 4), ("bend", 0)])]
        cuts = [([("cap",)], [], [], [(0, "long", 5, 9), (0, "wide", 0, 0)], []), ([("cap",), ("cap",)], [], [], [(0, "long", 20, 29)], [])]
        shut = [(parts, [(("disc",), (4,))], [("clip", 3, 4)], [], []), (parts, [(("pin", "bar"), (3,))], [], [], [])]
        self.soon(one, shut + cuts + readings_in("at least 2 plate", "at least 2 bar", "a bar; a disc"), (True, 200))
        self.soon(one, shut + cuts, (False, None))


if __name__ == "__main__":
    unittest.main()

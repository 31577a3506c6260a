import random
import time
import unittest

from claimwise.covering import covers
from claimwise.errors import TooMany
from claimwise.standing import apart, standing
from helper import KINDS, THIRTY, Checks, bare_things, fresh, is_thing, made_reading, reading_covering, readings_in

NOTHING = [([("rod",)], [], [], [(0, "long", 5, 2)], [])]
MANY = [([("rod", "cap", "plate")] * 5, [], [], [], [])]
TURNED = {"same": "same", "narrower": "wider", "wider": "narrower", "apart": "apart", "across": "across"}
# Which of the two cover the things told with each word.
SHOWN = {"same": [], "narrower": ["other"], "wider": ["one"], "apart": ["one", "other"], "across": ["one", "other", "both"]}


def named(readings):
    return readings_in(*readings) if type(readings[0]) is str else readings


class Asking(Checks):
    def asked(self, call, one, other):
        handed = fresh((KINDS, one, other))
        told = call(*handed)
        self.unshared(told, *handed)
        self.same(handed, (KINDS, one, other))
        return told

    def shows(self, thing, one, other, which):
        self.assertTrue(is_thing(thing), thing)
        self.assertEqual(reading_covering(one, thing) is not None, which in ("one", "both"), thing)
        self.assertEqual(reading_covering(other, thing) is not None, which in ("other", "both"), thing)


class ApartTest(Asking, unittest.TestCase):
    def meet(self, one, other):
        one, other = named(one), named(other)
        with self.subTest(one=one, other=other):
            self.shows(self.asked(apart, one, other), one, other, "both")
            self.shows(self.asked(apart, other, one), other, one, "both")

    def never(self, one, other):
        one, other = named(one), named(other)
        with self.subTest(one=one, other=other):
            self.assertIs(self.asked(apart, one, other), None)
            self.assertIs(self.asked(apart, other, one), None)

    def test_readings_without_parts(self):
        self.meet([""], [""])
        self.meet([""], ["a rod"])
        self.meet([""], ["just 1 rod; a cap; the rod clip the cap; then weld the cap"])

    def test_without_closed_pairs_there_is_one(self):
        texts = ["a rod", "a cap; a tube", "at least 5 rod; the rod clip the rod", "a rod; the rod long of 3", "a rod; the rod long of 4",
                 "a pin; then weld the pin; then bend the pin", "a bar; then bend the bar; then weld the bar"]
        for one in texts:
            for other in texts:
                self.meet([one], [other])

    def test_parts_that_must_be_the_same(self):
        self.meet(["just 1 rod"], ["just 1 rod"])
        self.meet(["just 1 rod"], ["a bar"])
        self.meet(["just 2 rod"], ["a pin; a tube"])
        self.meet(["just 1 rod"], ["just 1 bar"])
        self.meet(["just 3 rod"], ["just 2 bar; just 1 tube"])
        self.never(["just 1 rod"], ["a pin; a tube"])
        self.never(["just 2 rod"], ["just 3 rod"])
        self.never(["just 1 rod"], ["at least 2 rod"])
        self.never(["just 3 rod"], ["just 2 bar; at least 2 tube"])

    def test_parts_that_may_be_the_same(self):
        self.meet(["a rod; a cap"], ["just 2 rod"])
        self.meet(["a rod; a cap"], ["just 1 rod or cap; a plate; a bar", "just 2 rod"])
        self.never(["a rod; a cap"], ["just 1 rod or cap"])
        self.meet(["a rod; a cap; a plate"], ["just 1 plate; a rod"])

    def test_kinds_of_parts_that_are_the_same(self):
        self.never(["just 1 rod; the rod is a bar"], ["a tube"])
        self.never(["just 1 rod or cap; a plate"], ["a cap; a rod"])
        self.meet(["just 1 rod or cap"], ["a plate or cap"])
        self.meet(["just 1 cap or rod"], ["a plate or bar or disc"])
        self.never(["just 1 cap or rod"], ["just 1 plate or disc; a pin; a cap"])
        self.meet(["just 1 bar or cap"], ["just 1 rod or plate"])
        self.never(["just 1 rod; the rod is a bar"], ["just 1 rod; the rod is a tube"])

    # The parts can't be the same, so each must stand beside the other's closed pair.
    def test_a_choice_of_kinds_beside_a_closed_pair(self):
        self.meet(["a rod or cap; a bar"], ["just 1 rod"])
        self.never(["a rod or bar; a bar"], ["just 1 rod"])
        self.meet(["a bar or rod; a bar"], ["just 1 bar"])
        self.meet(["a cap or rod"], ["just 1 cap; the cap long of 1", "a pin"])
        self.meet(["a cap or rod; a tube; the tube long of 1"], ["just 1 cap; just 1 rod; the rod long of 1"])
        self.never(["a cap or rod; a tube; the tube long of 1"], ["just 1 cap or rod"])

    def test_closed_pairs_of_both(self):
        self.meet(["just 1 rod; a cap"], ["just 1 cap; a rod"])
        self.meet(["just 1 rod"], ["just 1 cap"])
        self.meet(["just 1 rod; just 2 cap"], ["just 2 cap; a pin"])
        self.never(["just 1 rod; a cap"], ["just 1 cap; at least 2 rod"])
        self.never(["just 1 rod; just 1 cap"], ["just 1 rod; just 2 cap"])
        self.meet(["just 1 rod; just 1 cap"], ["just 2 rod or cap"])
        self.never(["just 2 rod; just 1 cap"], ["just 2 rod or cap"])
        self.never(["just 1 bar; just 1 tube; at least 2 rod"], ["just 2 rod"])
        self.meet(["just 1 bar; just 1 tube; at least 2 rod"], ["just 4 rod"])
        self.never(["just 1 bar; just 1 tube; at least 2 rod"], ["just 4 rod; the rod is a bar or tube"])

    def test_pairs_that_need_another_partner(self):
        self.meet(["just 2 rod"], ["just 1 bar; a rod"])
        one = ["just 2 rod; a big cap; the rod clip the cap"]
        self.meet(one, ["a pin; a tube; a cap; the pin clip the cap"])
        self.meet([([("rod",), ("bar",)], [(("rod",), (0, 1))], [], [], [])], ["a bar; a tube"])
        self.meet([([("rod",), ("bar",)], [(("rod",), (0, 1))], [], [], [])], ["a tube; a bar"])
        self.never([([("rod",), ("bar",)], [(("rod",), (0, 1))], [], [], [])], ["at least 2 tube"])
        self.meet([([("rod", "cap"), ("rod",), ("bar",)], [(("rod", "cap"), (0, 1, 2))], [], [], [])], ["a pin; a tube; a cap"])

    def test_bounds_of_parts_that_must_be_the_same(self):
        for one, other, good in (
            ("from 2 to 5", "from 5 to 9", True), ("from 2 to 5", "from 6 to 9", False), ("at least 3", "at most 3", True),
            ("at least 4", "at most 3", False), ("at least 4", "at least 9", True), ("at most 4", "at most -9", True), ("of 4", "of 4", True),
            ("of 4", "of 5", False), ("from 2 to 9", "of 9", True), (f"of {THIRTY}", f"at least {THIRTY}", True),
            (f"of -{THIRTY}", f"of {THIRTY}", False), ("at most 0", "from 0 to 1", True),
        ):
            (self.meet if good else self.never)(["just 1 rod; the rod long " + one], ["a rod; the rod long " + other])
            (self.meet if good else self.never)(["just 1 rod; the rod long " + one], ["just 1 bar; the bar long " + other])
            self.meet(["just 1 rod; the rod long " + one], ["a rod; the rod wide " + other])
            self.meet(["a rod; the rod long " + one], ["a rod; the rod long " + other])

    def test_bounds_choose_the_partner(self):
        one = ["just 2 rod; a cap", "a plate; just 1 rod"]
        self.meet(["just 1 big bar; just 1 tube; the bar long of 1; the tube long of 2"], ["at least 2 rod"])
        self.never(["just 1 bar; the bar long of 1; just 1 tube; the tube long of 2"], ["just 2 rod; the rod long of 1"])
        self.meet(one, ["at least 2 rod; the rod long of 3"])
        small = [([("rod",), ("rod",)], [(("rod",), (0, 1))], [], [(0, "long", 1, 1), (1, "long", 2, 2)], [])]
        self.meet(small, [([("rod",), ("rod",)], [(("rod",), (0, 1))], [], [(0, "long", 2, 3), (1, "long", 0, 1)], [])])
        self.never(small, [([("rod",), ("rod",)], [(("rod",), (0, 1))], [], [(0, "long", 2, 3), (1, "long", 2, 9)], [])])

    def test_joins_of_both(self):
        self.meet(["just 1 rod; just 1 cap; the rod clip the cap"], ["just 1 rod; just 1 cap; the rod clip the cap; the cap clip the rod"])
        self.meet(["just 2 rod; the rod clip the rod"], ["a bar; a tube; a cap; the tube nail the bar; the cap nail the tube"])

    def test_steps_of_both_in_any_order(self):
        one = ["just 1 rod; a cap; then weld the rod; then bend the rod; then weld the cap"]
        self.meet(one, ["a rod; then bend the rod; then weld the rod"])
        self.meet(one, ["a cap; just 1 rod; then weld the cap; then weld the rod; then bend the rod"])
        self.meet(one, one)

    def test_several_readings(self):
        self.meet(NOTHING + readings_in("a rod"), ["just 1 rod"])
        self.meet(["just 1 rod; a bar", "a cap"], NOTHING + readings_in("just 1 cap"))
        self.meet(["just 1 rod", "just 2 rod", "just 3 rod"], ["just 5 rod", "just 4 rod", "just 3 rod"])
        self.never(["just 1 rod", "just 2 rod"], ["just 5 rod", "just 4 rod", "just 3 rod"])

    def test_what_covers_nothing(self):
        self.never(NOTHING, NOTHING)
        self.never(NOTHING, [""])
        self.never(NOTHING, ["a rod; the rod long of 3"])
        self.never(["just 1 rod; a bar"], [""])
        self.never(["just 1 rod; a bar"], ["a rod"])

    def test_it_is_never_refused(self):
        self.shows(apart(KINDS, MANY, MANY), MANY, MANY, "both")
        shut = [(MANY[0][0], [(("rod", "cap", "plate"), (0, 1, 2, 3, 4))], [], [], [])]
        self.shows(apart(KINDS, MANY, shut), MANY, shut, "both")
        self.assertIsNone(apart(KINDS, shut, [([("bar",), ("cap",)], [(("rod", "cap", "plate"), (0, 1))], [], [], [])]))

    # A closed pair that a change of kind has left behind: its part is no longer under its kinds.
    def test_closed_pairs_whose_parts_have_other_kinds(self):
        odd = [([("cap",)], [(("rod",), (0,))], [], [], [])]
        self.meet(odd, ["a cap"])
        self.meet(odd, odd)
        self.never(odd, ["a rod"])
        self.never(odd, ["just 1 bar"])

    def test_held_against_all_bare_things(self):
        source = random.Random(8)
        things = list(bare_things([kind for kind, upper in KINDS[:5]], 7))
        told = []
        for _ in range(150):
            pair = []
            for _ in range(2):
                reading = made_reading(source)
                pair.append([(reading[0], reading[1], [], [], [])])
            meeting = [thing for thing in things if covers(KINDS, pair[0], thing) and covers(KINDS, pair[1], thing)]
            thing = apart(KINDS, pair[0], pair[1])
            self.assertEqual(thing is None, meeting == [], pair)
            if thing is not None:
                self.shows(thing, pair[0], pair[1], "both")
            told.append(thing is None)
        self.assertGreater(told.count(True), 10)
        self.assertGreater(told.count(False), 10)

    def test_told_is_the_askers_own(self):
        one = readings_in("a rod; a cap; the rod clip the cap; the cap long of 1; then weld the cap")
        kept = fresh(apart(KINDS, one, one))
        told = apart(KINDS, one, one)
        for part in told[0]:
            part[1].clear()
        for inner in told:
            inner.clear()
        self.same(apart(KINDS, one, one), kept)


class StandingTest(Asking, unittest.TestCase):
    def tells(self, one, other, word):
        one, other = named(one), named(other)
        for first, second, expected in ((one, other, word), (other, one, TURNED[word])):
            with self.subTest(one=first, other=second):
                told = self.asked(standing, first, second)
                self.same(told[0], expected)
                self.assertIs(type(told), tuple)
                self.assertIs(type(told[1]), list)
                self.assertEqual([len(told), len(told[1])], [2, len(SHOWN[expected])])
                for thing, which in zip(told[1], SHOWN[expected]):
                    self.shows(thing, first, second, which)

    def test_same(self):
        for text in ("", "a rod", "just 2 rod; a cap; the rod clip the cap", "a rod or cap"):
            self.tells([text], [text], "same")
        self.tells(["a rod; a cap"], ["a cap; a rod"], "same")
        self.tells(["a rod", "a bar"], ["a rod"], "same")
        self.tells(["a rod; the rod long from 0 to 9"], ["a rod; the rod long from 0 to 5", "a rod; the rod long from 6 to 9"], "same")
        self.tells(["a rod"], ["just 1 rod", "at least 2 rod"], "same")
        self.tells(NOTHING, ["just 1 rod; a bar"], "same")

    def test_narrower_and_wider(self):
        for one, other in (
            ("a bar", "a rod"), ("a rod; a cap", "a rod"), ("just 1 rod", "a rod"), ("a rod; the rod long of 2", "a rod; the rod long at least 2"),
            ("a rod; then weld the rod", "a rod"), ("a rod; a cap; the rod clip the cap", "a rod; a cap"), ("just 1 rod; the rod is a bar", "just 1 bar"),
        ):
            self.tells([one], [other], "narrower")
        self.tells(NOTHING, readings_in("a rod"), "narrower")
        self.tells(NOTHING, readings_in(""), "narrower")

    def test_apart(self):
        self.tells(["just 1 rod"], ["just 2 rod"], "apart")
        self.tells(["just 1 rod; the rod is a bar"], ["a tube"], "apart")
        self.tells(["just 1 rod; the rod long at most 3"], ["just 1 rod; the rod long at least 4"], "apart")
        self.tells(["just 1 rod", "just 3 rod"], ["just 4 rod", "just 2 rod"], "apart")

    def test_across(self):
        self.tells(["a rod"], ["a cap"], "across")
        self.tells(["a bar"], ["a tube"], "across")
        self.tells(["just 1 rod"], ["a cap"], "across")
        self.tells(["just 1 rod"], ["just 1 cap"], "across")
        self.tells(["just 1 rod"], ["just 1 bar"], "across")
        self.tells(["just 1 rod; the rod long at most 3"], ["just 1 rod; the rod long at least 3"], "across")
        self.tells(["a rod; then weld the rod; then bend the rod"], ["a rod; then bend the rod; then weld the rod"], "across")
        self.tells(["just 1 rod", "just 2 rod"], ["just 3 rod", "just 2 rod"], "across")

    def test_too_many_either_way(self):
        few = readings_in("a pin")
        self.refused(TooMany, {}, standing, KINDS, MANY, few)
        self.refused(TooMany, {}, standing, KINDS, few, MANY)
        self.refused(TooMany, {}, standing, KINDS, MANY, MANY)
        self.refused(TooMany, {}, standing, KINDS, NOTHING, few + MANY)

    # How many least things there are hangs on the cuts of the others.
    def test_too_many_by_the_others_cuts(self):
        sizes = [(0, word, 0, 99) for word in "bcd"]
        one = [([("rod",)], [], [], sizes, [])]
        cuts = [([("rod",)], [], [], [(0, word, number, None)], []) for word in "bcd" for number in range(1, 6)]
        self.refused(TooMany, {}, standing, KINDS, one, cuts)
        self.refused(TooMany, {}, standing, KINDS, cuts, one)
        self.tells(one, cuts[:4] + cuts[5:9] + cuts[10:14], "across")

    def test_time(self):
        parts = [("rod", "cap"), ("rod", "plate"), ("rod", "tube"), ("bar", "disc"), ("disc", "bar", "cap")]
        ring = sorted(("clip", i, (i + 1) % 5) for i in range(5))
        readings = []
        for turn in range(4):
            steps = [("weld", (i + turn) % 5) for i in range(5)] * 2
            readings.append((parts, [(("disc",), (3,))] if turn == 3 else [], ring, [], steps))
        began = time.monotonic()
        self.assertIn(standing(KINDS, readings[:4], readings[1:])[0], ("wider", "across"))
        self.assertIsNotNone(apart(KINDS, readings * 6, readings * 6))
        self.assertLess(time.monotonic() - began, 10)

    def test_told_is_the_askers_own(self):
        one = readings_in("just 1 rod; the rod long from 0 to 5; then weld the rod")
        other = readings_in("just 1 rod; a cap; the rod clip the cap")
        kept = fresh(standing(KINDS, one, other))
        word, things = standing(KINDS, one, other)
        self.assertEqual(word, "across")
        for thing in things:
            for inner in thing:
                inner.clear()
        things.clear()
        self.same(standing(KINDS, one, other), kept)


if __name__ == "__main__":
    unittest.main()

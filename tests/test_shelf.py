import random
import time
import unittest

from claimwise.covering import covers
from claimwise.errors import NoFit
from claimwise.shelf import Shelf, together
from helper import EMPTY, KINDS, THIRTY, Checks, fresh, is_thing, made_reading, made_thing, readings_in, thing_in, under

BIG = int(THIRTY)
# A thing of each sort of rows, with parts 0 to 3.
FULL = thing_in(
    "part rod", "size kb 2", "size long 5", "part cap", "part bar", "size ka 1", "part tube",
    "join clip 0 1", "join clip 2 0", "join nail 1 3", "step weld 1", "step bend 0",
)


# A part of both, or None where the two don't fit.
def shared(one, other):
    lower = [kind for kind in (one[0], other[0]) if under(kind, one[0]) and under(kind, other[0])]
    words = [word for word, number in set(one[1] + other[1])]
    if not lower or len(set(words)) != len(words):
        return None
    return (lower[0], sorted(set(one[1] + other[1])))


def laid(one, other, spots):
    """What the promise tells, told again: None where the spots are no good."""
    firsts, seconds = [i for i, j in spots], [j for i, j in spots]
    for numbers, thing in ((firsts, one), (seconds, other)):
        if sorted(set(numbers)) != sorted(numbers) or not set(numbers) <= set(range(len(thing[0]))):
            return None
    parts = [shared(part, other[0][seconds[firsts.index(i)]]) if i in firsts else part for i, part in enumerate(one[0])]
    if None in parts:
        return None
    behind = [j for j in range(len(other[0])) if j not in seconds]
    place = {j: firsts[seconds.index(j)] if j in seconds else len(parts) + behind.index(j) for j in range(len(other[0]))}
    joins = sorted(set(one[1]) | {(word, place[i], place[j]) for word, i, j in other[1]})
    return (parts + [other[0][j] for j in behind], joins, one[2] + [(word, place[i]) for word, i in other[2]])


class TogetherTest(Checks, unittest.TestCase):
    def lays(self, one, other, spots, expected):
        handed = fresh((KINDS, one, other, spots))
        with self.subTest(one=one, other=other, spots=spots):
            told = together(*handed)
            self.same(told, expected)
            self.assertTrue(is_thing(told))
            self.unshared(told, *handed)
            self.same(handed, (KINDS, one, other, spots))
            self.same(laid(one, other, spots), expected)

    def no_fit(self, one, other, spots):
        with self.subTest(one=one, other=other, spots=spots):
            self.refused(NoFit, {}, together, KINDS, one, other, spots)
            self.assertIsNone(laid(one, other, spots))

    def test_no_spots(self):
        other = thing_in("part disc", "size wide 3", "part cap", "join clip 1 0", "step burn 0", "step weld 1")
        parts = [("rod", [("kb", 2), ("long", 5)]), ("cap", []), ("bar", [("ka", 1)]), ("tube", []), ("disc", [("wide", 3)]), ("cap", [])]
        joins = [("clip", 0, 1), ("clip", 2, 0), ("clip", 5, 4), ("nail", 1, 3)]
        steps = [("weld", 1), ("bend", 0), ("burn", 4), ("weld", 5)]
        self.lays(FULL, other, [], (parts, joins, steps))

    def test_things_without_parts(self):
        self.lays(EMPTY, EMPTY, [], EMPTY)
        self.lays(EMPTY, FULL, [], FULL)
        self.lays(FULL, EMPTY, [], FULL)
        for spots in ([(0, 0)], [(0, -1)], [(-1, 0)]):
            self.no_fit(EMPTY, FULL, spots)
            self.no_fit(FULL, EMPTY, spots)
            self.no_fit(EMPTY, EMPTY, spots)

    def test_one_pair(self):
        one = thing_in("part cap", "part rod")
        other = thing_in("part disc", "part rod", "part plate")
        self.lays(one, other, [(1, 1)], ([("cap", []), ("rod", []), ("disc", []), ("plate", [])], [], []))
        self.no_fit(one, other, [(0, 1)])

    def test_several_pairs_in_any_order(self):
        one = thing_in("part cap", "part rod", "part plate")
        other = thing_in("part disc", "part pin", "part cap", "part cap", "join clip 0 1", "join clip 3 2", "step weld 3", "step weld 0")
        parts = [("cap", []), ("pin", []), ("disc", []), ("cap", [])]
        expected = (parts, [("clip", 2, 1), ("clip", 3, 0)], [("weld", 3), ("weld", 2)])
        for spots in ([(0, 2), (1, 1), (2, 0)], [(2, 0), (1, 1), (0, 2)], [(1, 1), (0, 2), (2, 0)]):
            self.lays(one, other, spots, expected)
        expected = (parts, [("clip", 0, 3), ("clip", 2, 1)], [("weld", 0), ("weld", 2)])
        self.lays(one, other, [(1, 1), (0, 3), (2, 0)], expected)

    def test_the_lower_kind(self):
        for one, upper in KINDS:
            for other, above in KINDS:
                lower = one if under(one, other) else other
                things = (([(one, [])], [], []), ([(other, [])], [], []))
                if under(one, other) or under(other, one):
                    self.lays(things[0], things[1], [(0, 0)], ([(lower, [])], [], []))
                else:
                    self.no_fit(things[0], things[1], [(0, 0)])

    def test_sizes_of_both(self):
        one = thing_in("part rod", "size long 5", "size kb 2")
        other = thing_in("part bar", "size ka 1", "size long 5", "size wide 0")
        sizes = [("ka", 1), ("kb", 2), ("long", 5), ("wide", 0)]
        self.lays(one, other, [(0, 0)], ([("bar", sizes)], [], []))
        self.lays(one, thing_in("part rod"), [(0, 0)], one)
        self.lays(thing_in("part rod"), one, [(0, 0)], one)
        big = ([("rod", [("long", BIG)])], [], [])
        self.lays(big, fresh(big), [(0, 0)], big)

    def test_unlike_numbers(self):
        for number in (4, 6, -5, BIG, 0):
            self.no_fit(thing_in("part rod", "size long 5"), ([("rod", [("long", number)])], [], []), [(0, 0)])
        one = thing_in("part rod", "size ka 1", "size kb 2", "part rod", "size ka 2")
        other = thing_in("part rod", "size kb 2", "size kc 2", "part rod", "size ka 1", "size kb 3")
        self.no_fit(one, other, [(0, 1)])
        self.no_fit(one, other, [(1, 1)])
        self.no_fit(one, other, [(1, 0), (0, 1)])
        self.lays(one, other, [(0, 0)], ([("rod", [("ka", 1), ("kb", 2), ("kc", 2)]), one[0][1], other[0][1]], [], []))
        self.lays(one, other, [(1, 0)], ([one[0][0], ("rod", [("ka", 2), ("kb", 2), ("kc", 2)]), other[0][1]], [], []))

    def test_a_join_that_both_have(self):
        one = thing_in("part rod", "part cap", "join clip 0 1", "join nail 1 0")
        other = thing_in("part cap", "part rod", "join clip 1 0", "join glue 0 1", "join nail 1 0")
        joins = [("clip", 0, 1), ("glue", 1, 0), ("nail", 0, 1), ("nail", 1, 0)]
        self.lays(one, other, [(0, 1), (1, 0)], ([("rod", []), ("cap", [])], joins, []))
        self.lays(one, fresh(one), [(0, 0), (1, 1)], one)

    def test_steps_are_told_each(self):
        one = thing_in("part rod", "step weld 0", "step bend 0")
        self.lays(one, fresh(one), [(0, 0)], ([("rod", [])], [], [("weld", 0), ("bend", 0)] * 2))
        self.lays(one, fresh(one), [], ([("rod", [])] * 2, [], [("weld", 0), ("bend", 0), ("weld", 1), ("bend", 1)]))

    def test_a_part_twice(self):
        rods = thing_in("part rod", "part rod", "part rod")
        for spots in ([(0, 0), (0, 1)], [(0, 1), (2, 1)], [(0, 0), (0, 0)], [(0, 1), (1, 2), (2, 1)]):
            self.no_fit(rods, fresh(rods), spots)

    def test_numbers_that_are_no_parts(self):
        one = thing_in("part rod", "part rod")
        other = thing_in("part rod", "part rod", "part rod")
        for number in (-1, -2, 2, 3, BIG, -BIG):
            self.no_fit(one, other, [(number, 0)])
            self.no_fit(one, other, [(0, 0), (number, 1)])
        for number in (-1, -3, 3, 4, BIG, -BIG):
            self.no_fit(one, other, [(0, number)])
            self.no_fit(one, other, [(0, number), (1, 1)])
        self.lays(one, other, [(1, 2)], ([("rod", [])] * 4, [], []))

    def test_greater_things(self):
        whole = together(KINDS, FULL, FULL, [])
        self.lays(whole, whole, [(0, 4)], laid(whole, whole, [(0, 4)]))

    def test_held_against_the_promise(self):
        source = random.Random(4)
        fitting = 0
        for _ in range(1500):
            one, other = made_thing(source), made_thing(source)
            count = source.choice((0, 1, 1, 2, 3))
            numbers = [list(range(len(thing[0]))) * 3 + [-1, len(thing[0])] for thing in (one, other)]
            spots = [(source.choice(numbers[0]), source.choice(numbers[1])) for _ in range(count)]
            expected = laid(one, other, spots)
            if expected is None:
                self.refused(NoFit, {}, together, KINDS, one, other, spots)
            else:
                fitting += len(spots) > 0
                self.same(together(KINDS, one, other, spots), expected)
        self.assertGreater(fitting, 60)


class ShelfTest(Checks, unittest.TestCase):
    def shelf(self, *texts):
        shelf = Shelf(fresh(KINDS))
        for number, text in enumerate(texts):
            self.same(shelf.put(thing_in(*[row for row in text.split(";") if row])), number)
        return shelf

    def takes(self, shelf, texts, expected):
        readings = readings_in(*texts)
        kept = fresh(readings)
        self.same(shelf.taker(readings), expected)
        self.same(readings, kept)

    def pairs(self, shelf, texts, expected):
        readings = readings_in(*texts)
        kept = fresh(readings)
        told = shelf.pair(readings)
        self.same(told, expected)
        self.unshared(told, readings)
        self.same(readings, kept)

    def test_an_empty_shelf(self):
        shelf = self.shelf()
        for texts in (["a rod"], [""], ["", "a rod"]):
            self.takes(shelf, texts, None)
            self.pairs(shelf, texts, None)
        self.assertIsNone(shelf.taker([]))
        self.assertIsNone(shelf.pair([]))

    def test_the_first_thing_that_is_covered(self):
        shelf = self.shelf("part cap", "part cap;part bar", "part rod", "part bar;part rod")
        self.takes(shelf, ["a cap"], (0, [0]))
        self.takes(shelf, ["a rod"], (1, [1]))
        self.takes(shelf, ["at least 2 rod"], (3, [0, 1]))
        self.takes(shelf, ["a rod; a bar"], (3, [1, 0]))
        self.takes(shelf, ["a tube"], None)
        self.takes(shelf, [""], (0, []))

    def test_the_first_thing_goes_ahead_of_the_first_reading(self):
        shelf = self.shelf("part cap;part rod", "part tube")
        self.takes(shelf, ["a tube", "a rod"], (0, [1]))
        self.takes(shelf, ["a tube", "a disc"], (1, [0]))
        self.takes(shelf, ["a rod; a cap", "a cap; a rod"], (0, [1, 0]))
        self.assertIsNone(shelf.taker([]))

    def test_the_same_thing_twice(self):
        shelf = self.shelf("part rod", "part rod", "part rod")
        self.takes(shelf, ["a rod"], (0, [0]))
        self.pairs(shelf, ["a rod"], (0, 1, [], [0]))

    def test_one_thing_is_no_pair(self):
        shelf = self.shelf("part rod;part rod")
        self.pairs(shelf, ["a rod"], None)
        self.pairs(shelf, [""], None)

    def test_pairs_by_one_and_then_other(self):
        shelf = self.shelf("part tube", "part rod", "part cap", "part rod", "part plate", "part cap")
        self.pairs(shelf, [""], (0, 1, [], []))
        self.pairs(shelf, ["a cap"], (0, 2, [], [1]))
        self.pairs(shelf, ["a cap; a plate"], (2, 4, [], [0, 1]))
        self.pairs(shelf, ["a plate; a cap"], (2, 4, [], [1, 0]))
        self.pairs(shelf, ["at least 2 cap"], (2, 5, [], [0, 1]))
        self.pairs(shelf, ["a tube; a cap"], (0, 2, [], [0, 1]))
        self.pairs(shelf, ["at least 3 rod"], None)
        self.pairs(shelf, ["at least 2 plate"], None)

    def test_without_spots_goes_ahead(self):
        shelf = self.shelf("part rod;size ka 1", "part rod;size kb 2")
        self.pairs(shelf, ["a rod; the rod ka of 1"], (0, 1, [], [0]))
        self.pairs(shelf, ["a rod; the rod kb of 2"], (0, 1, [], [1]))
        self.pairs(shelf, ["a rod; the rod ka of 1; the rod kb of 2"], (0, 1, [(0, 0)], [0]))
        self.pairs(shelf, ["a rod; the rod ka of 1; the rod kb of 2", "at least 2 rod"], (0, 1, [], [0, 1]))
        self.pairs(shelf, ["just 1 rod"], (0, 1, [(0, 0)], [0]))

    def test_other_pairs_of_things_come_behind_one_pair_of_parts(self):
        shelf = self.shelf("part rod", "part rod", "part cap")
        self.pairs(shelf, ["just 1 rod"], (0, 1, [(0, 0)], [0]))
        self.pairs(shelf, ["just 1 rod; a cap"], (0, 2, [], [0, 1]))

    def test_spots_by_the_first_and_then_the_second(self):
        shelf = self.shelf("part cap;part rod;part rod", "part cap;part rod;part bar")
        self.pairs(shelf, ["just 3 rod"], (0, 1, [(1, 1)], [1, 2, 4]))
        self.pairs(shelf, ["just 1 cap"], (0, 1, [(0, 0)], [0]))
        shelf = self.shelf("part rod;part rod;join clip 0 1", "part rod;part rod;join nail 1 0")
        text = "a aa rod; a bb rod; a cc rod; the aa rod clip the bb rod; the bb rod nail the cc rod"
        self.pairs(shelf, [text], (0, 1, [(1, 1)], [0, 1, 2]))
        text = "a aa rod; a bb rod; a cc rod; the aa rod clip the bb rod; the cc rod nail the aa rod"
        self.pairs(shelf, [text], (0, 1, [(0, 0)], [0, 1, 2]))
        text = "a aa rod; a bb rod; a cc rod; the aa rod clip the bb rod; the aa rod nail the cc rod"
        self.pairs(shelf, [text], (0, 1, [(0, 1)], [0, 1, 2]))

    def test_pairs_that_do_not_fit_are_passed_over(self):
        shelf = self.shelf("part cap;part rod;size ka 1;part bar", "part disc;part rod;size ka 2;part tube;part pin")
        self.pairs(shelf, ["just 4 rod"], (0, 1, [(1, 2)], [1, 2, 4, 5]))
        shelf = self.shelf("part cap;part rod;size ka 1", "part plate;part rod;size ka 2")
        self.pairs(shelf, ["just 1 rod"], None)

    def test_only_one_pair_of_parts(self):
        shelf = self.shelf("part rod;part rod", "part rod;part rod")
        self.pairs(shelf, ["just 3 rod"], (0, 1, [(0, 0)], [0, 1, 2]))
        self.pairs(shelf, ["just 2 rod"], None)

    def test_the_finding_of_the_first_reading(self):
        shelf = self.shelf("part rod", "part cap")
        self.pairs(shelf, ["a tube", "a cap; a rod", "a rod; a cap"], (0, 1, [], [1, 0]))

    def test_steps_of_the_second_come_behind(self):
        shelf = self.shelf("part rod;step bend 0", "part rod;step weld 0")
        self.pairs(shelf, ["a rod; then bend the rod; then weld the rod"], (0, 1, [(0, 0)], [0]))
        self.pairs(shelf, ["a rod; then weld the rod; then bend the rod"], None)

    def test_things_may_be_greater(self):
        shelf = Shelf(KINDS)
        whole = together(KINDS, FULL, together(KINDS, FULL, FULL, []), [])
        self.assertEqual(shelf.put(whole), 0)
        self.assertEqual(shelf.put(whole), 1)
        self.takes(shelf, ["at least 3 cap"], (0, [1, 5, 9]))
        self.pairs(shelf, ["at least 4 cap"], (0, 1, [], [1, 5, 9, 13]))

    def test_what_is_changed_behind_the_call(self):
        kinds = fresh(KINDS)
        shelf = Shelf(kinds)
        kinds.clear()
        thing = thing_in("part bar", "size ka 1", "part cap", "join clip 0 1", "step weld 0")
        shelf.put(thing)
        shelf.put(thing)
        thing[0][0][1].clear()
        for inner in thing:
            inner.clear()
        text = "a rod; the rod ka of 1; a cap; the rod clip the cap; then weld the rod"
        for _ in range(3):
            told = shelf.taker(readings_in(text))
            self.same(told, (0, [0, 1]))
            told[1].append(3)
            told = shelf.pair(readings_in(text.replace("a cap;", "just 1 cap;")))
            self.same(told, (0, 1, [(1, 1)], [0, 1]))
            told[2].clear()
            told[3].clear()

    def test_two_shelves(self):
        one, other = Shelf(KINDS), Shelf([("rod", "")])
        one.put(thing_in("part rod"))
        self.assertIsNone(other.taker(readings_in("a rod")))
        self.assertEqual(other.put(thing_in("part rod")), 0)

    def test_asking_changes_nothing(self):
        shelf = self.shelf("part rod", "part cap")
        self.pairs(shelf, ["a disc"], None)
        self.takes(shelf, ["a disc"], None)
        self.assertEqual(shelf.put(thing_in("part disc")), 2)
        self.takes(shelf, ["a disc"], (2, [0]))
        self.pairs(shelf, ["a disc"], (0, 2, [], [1]))

    def test_held_against_the_promise(self):
        source = random.Random(14)
        found = []
        for _ in range(60):
            things = [made_thing(source) for _ in range(source.randint(0, 4))]
            shelf = Shelf(KINDS)
            for thing in things:
                shelf.put(thing)
            for _ in range(4):
                readings = [made_reading(source) for _ in range(source.randint(1, 2))]
                expected = first_pair(things, readings)
                found.append(None if expected is None else len(expected[2]))
                self.same(shelf.pair(readings), expected)
        for count in (None, 0, 1):
            self.assertGreater(found.count(count), 3)

    def test_time(self):
        source = random.Random(2)
        shelf = Shelf(KINDS)
        joins = [(i, j) for i in range(8) for j in range(8) if i != j]
        for _ in range(8):
            chosen = sorted(("clip",) + pair for pair in source.sample(joins, 16))
            shelf.put(([("rod", []) for _ in range(8)], chosen, [("weld", source.randrange(8)) for _ in range(8)]))
        text = "a aa rod; a bb rod; a cc rod; a dd rod; a ee rod; the ee rod clip the aa rod; the dd rod clip the ee rod"
        began = time.monotonic()
        for more in ("; the aa rod nail the bb rod", "; then weld the aa rod" * 4 + "; then bend the bb rod"):
            self.assertIsNone(shelf.pair(readings_in(text + more)))
        self.assertLess(time.monotonic() - began, 10)


def first_pair(things, readings):
    for one in range(len(things)):
        for other in range(one + 1, len(things)):
            spots = [[]] + [[(i, j)] for i in range(len(things[one][0])) for j in range(len(things[other][0]))]
            for tried in spots:
                whole = laid(things[one], things[other], tried)
                covering = whole and covers(KINDS, readings, whole)
                if covering:
                    return (one, other, tried, covering[1])
    return None


if __name__ == "__main__":
    unittest.main()

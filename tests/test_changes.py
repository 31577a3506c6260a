import itertools
import random
import time
import unittest

from claimwise.changes import at_hand, changed, fewest
from claimwise.covering import finding_in
from claimwise.errors import NoChange, NotOwn, TooMany
from helper import EMPTY, KINDS, THIRTY, Checks, first_of_all, fresh, made_reading, made_thing, reading_in, thing_in, under, under_one

BIG = int(THIRTY)
NOTHING = ([], [], [], [], [])
FULL = (
    [("rod", "cap"), ("bar",), ("plate",)], [(("plate", "cap"), (2,))], [("clip", 0, 1), ("nail", 2, 0)],
    [(0, "long", 2, 9), (1, "long", None, 5), (1, "wide", 3, None)], [("weld", 1), ("bend", 0), ("weld", 1)],
)


def with_change(reading, change):
    """One change, told again as the promise tells it."""
    parts, closed, joins, sizes, steps = fresh(reading)
    if change[0] == "kind":
        parts[change[1]] = (change[2],)
    elif change[0] == "join":
        joins = sorted(set(joins) | {change[1:]})
    else:
        i, word, number = change[1:]
        told = [size for size in sizes if size[:2] == (i, word)] or [(i, word, None, None)]
        lo, hi = told[0][2:]
        if change[0] == "least":
            lo = number if lo is None or number > lo else lo
        else:
            hi = number if hi is None or number < hi else hi
        sizes = sorted([size for size in sizes if size[:2] != (i, word)] + [(i, word, lo, hi)], key=lambda size: size[:2])
    return (parts, closed, joins, sizes, steps)


def with_changes(reading, changes):
    for change in changes:
        reading = with_change(reading, change)
    return reading


def all_at_hand(reading, own, older):
    found = first_of_all(reading, own)
    changes = []
    for i, place in enumerate(found):
        kind, sizes = own[0][place]
        for word, upper in KINDS:
            if under(kind, word) and under_one(word, reading[0][i]) and reading[0][i] != (word,):
                changes.append(("kind", i, word))
        for word, number in sizes:
            others = sorted(value for _, told in older[0] for name, value in told if name == word)
            changes += [("least", i, word, value + 1) for value in others if value < number][-1:]
            changes += [("most", i, word, value - 1) for value in others if value > number][:1]
    for word, begin, end in own[1]:
        if begin in found and end in found and (word, found.index(begin), found.index(end)) not in reading[2]:
            changes.append(("join", word, found.index(begin), found.index(end)))
    return changes


def first_row(reading, own, older):
    """The fewest changes by trying all rows of them, or None."""
    changes = all_at_hand(reading, own, older)
    for count in range(4):
        for chosen in itertools.combinations(changes, count):
            if first_of_all(with_changes(reading, chosen), older) is None:
                return list(chosen)
    return None


class ChangedTest(Checks, unittest.TestCase):
    def tells(self, reading, changes, expected):
        handed = fresh((reading, changes))
        with self.subTest(reading=reading, changes=changes):
            told = changed(*handed)
            self.same(told, expected)
            self.unshared(told, *handed)
            self.same(handed, (reading, changes))
            self.same(with_changes(reading, changes), expected)

    # The reading with one of its five values another.
    def becomes(self, changes, place, value):
        self.tells(FULL, changes, FULL[:place] + (value,) + FULL[place + 1:])

    def test_no_change(self):
        self.tells(FULL, [], FULL)
        self.tells(NOTHING, [], NOTHING)

    def test_a_kind(self):
        self.becomes([("kind", 0, "bar")], 0, [("bar",), ("bar",), ("plate",)])
        self.becomes([("kind", 0, "rod")], 0, [("rod",), ("bar",), ("plate",)])
        self.becomes([("kind", 1, "bar")], 0, FULL[0])
        self.becomes([("kind", 2, "zigzag")], 0, [("rod", "cap"), ("bar",), ("zigzag",)])

    def test_a_join(self):
        self.becomes([("join", "clip", 2, 1)], 2, [("clip", 0, 1), ("clip", 2, 1), ("nail", 2, 0)])
        self.becomes([("join", "clip", 0, 2)], 2, [("clip", 0, 1), ("clip", 0, 2), ("nail", 2, 0)])
        self.becomes([("join", "b", 1, 2)], 2, [("b", 1, 2), ("clip", 0, 1), ("nail", 2, 0)])
        self.becomes([("join", "nail", 2, 1)], 2, [("clip", 0, 1), ("nail", 2, 0), ("nail", 2, 1)])

    def test_a_join_that_is_there(self):
        self.tells(FULL, [("join", "clip", 0, 1)], FULL)
        self.becomes([("join", "clip", 1, 0)] * 2, 2, [("clip", 0, 1), ("clip", 1, 0), ("nail", 2, 0)])

    def test_a_sharper_bound(self):
        rest = FULL[3][1:]
        self.becomes([("least", 0, "long", 3)], 3, [(0, "long", 3, 9)] + rest)
        self.becomes([("most", 0, "long", 8)], 3, [(0, "long", 2, 8)] + rest)
        self.becomes([("least", 0, "long", BIG)], 3, [(0, "long", BIG, 9)] + rest)
        self.becomes([("most", 0, "long", -BIG)], 3, [(0, "long", 2, -BIG)] + rest)

    def test_a_bound_that_is_not_sharper(self):
        for change in (("least", 0, "long", 2), ("least", 0, "long", 1), ("least", 0, "long", -BIG), ("most", 0, "long", 9),
                       ("most", 0, "long", 10), ("most", 1, "long", 5), ("most", 1, "long", 6), ("least", 1, "wide", 3), ("least", 1, "wide", 0)):
            self.tells(FULL, [change], FULL)

    def test_the_other_bound_is_open(self):
        first, second, third = FULL[3]
        self.becomes([("least", 1, "long", 0)], 3, [first, (1, "long", 0, 5), third])
        self.becomes([("least", 1, "long", -3)], 3, [first, (1, "long", -3, 5), third])
        self.becomes([("most", 1, "wide", 3)], 3, [first, second, (1, "wide", 3, 3)])
        self.becomes([("most", 1, "long", 0)], 3, [first, (1, "long", None, 0), third])

    def test_a_size_that_has_no_bound(self):
        first, second, third = FULL[3]
        self.becomes([("least", 2, "long", 4)], 3, FULL[3] + [(2, "long", 4, None)])
        self.becomes([("most", 0, "wide", 0)], 3, [first, (0, "wide", None, 0), second, third])
        self.becomes([("least", 0, "deep", 4)], 3, [(0, "deep", 4, None), first, second, third])
        self.becomes([("most", 1, "thin", 4)], 3, [first, second, (1, "thin", None, 4), third])
        self.tells(([("rod",)], [], [], [], []), [("least", 0, "long", 0)], ([("rod",)], [], [], [(0, "long", 0, None)], []))

    def test_several_behind_one_another(self):
        changes = [("kind", 0, "rod"), ("least", 0, "long", 4), ("join", "clip", 1, 2), ("kind", 0, "bar"), ("most", 0, "long", 7)]
        changes += [("least", 0, "long", 3), ("least", 2, "long", 1), ("most", 2, "long", 6), ("join", "b", 2, 0)]
        sizes = [(0, "long", 4, 7)] + FULL[3][1:] + [(2, "long", 1, 6)]
        joins = [("b", 2, 0), ("clip", 0, 1), ("clip", 1, 2), ("nail", 2, 0)]
        self.tells(FULL, changes, ([("bar",), ("bar",), ("plate",)], FULL[1], joins, sizes, FULL[4]))

    def test_a_lo_above_a_hi(self):
        self.becomes([("least", 0, "long", 10)], 3, [(0, "long", 10, 9)] + FULL[3][1:])
        self.becomes([("most", 2, "b", 1), ("least", 2, "b", 2)], 3, FULL[3] + [(2, "b", 2, 1)])
        reading = changed(reading_in("a rod", "the rod long at most 3"), [("least", 0, "long", 4)])
        for number in range(8):
            self.assertIsNone(finding_in(KINDS, reading, ([("rod", [("long", number)])], [], [])))

    def test_told_is_the_askers_own(self):
        reading = fresh(FULL)
        told = changed(reading, [("kind", 0, "bar")])
        kept = fresh(told)
        for inner in told:
            inner.clear()
        self.same(reading, FULL)
        self.same(changed(reading, [("kind", 0, "bar")]), kept)


class AtHandTest(Checks, unittest.TestCase):
    def tells(self, reading, own, older, expected):
        handed = fresh((KINDS, reading, own, older))
        with self.subTest(reading=reading, own=own, older=older):
            told = at_hand(*handed)
            self.same(told, expected)
            self.unshared(told, *handed)
            self.same(handed, (KINDS, reading, own, older))
            self.same(all_at_hand(reading, own, older), expected)
            for count in range(4):
                for chosen in itertools.combinations(told, count):
                    self.assertIsNotNone(finding_in(KINDS, changed(reading, list(chosen)), own))

    def kinds(self, reading, own, expected):
        self.tells(reading, thing_in(*own), EMPTY, [("kind", i, kind) for i, kind in expected])

    def test_none(self):
        self.tells(NOTHING, EMPTY, EMPTY, [])
        self.tells(NOTHING, thing_in("part rod", "size long 3", "part rod", "join clip 0 1"), thing_in("part rod", "size long 2"), [])
        self.tells(reading_in("a rod"), thing_in("part rod"), thing_in("part rod"), [])

    def test_kinds_in_their_order(self):
        self.kinds(reading_in("a rod"), ["part pin"], [(0, "bar"), (0, "pin")])
        self.kinds(reading_in("a rod"), ["part tube"], [(0, "tube")])
        self.kinds(reading_in("a bar"), ["part pin"], [(0, "pin")])
        self.kinds(reading_in("a pin"), ["part pin"], [])
        self.kinds(reading_in("a cap"), ["part cap"], [])

    def test_one_of_several_kinds(self):
        self.kinds(reading_in("a rod or cap"), ["part rod"], [(0, "rod")])
        self.kinds(reading_in("a cap or rod"), ["part cap"], [(0, "cap")])
        self.kinds(reading_in("a rod or bar"), ["part pin"], [(0, "rod"), (0, "bar"), (0, "pin")])
        self.kinds(reading_in("a bar or plate"), ["part bar"], [(0, "bar")])

    def test_kinds_of_several_parts(self):
        self.kinds(reading_in("a rod", "a plate or cap", "a bar"), ["part disc", "part pin", "part bar"],
                   [(0, "bar"), (0, "pin"), (1, "plate"), (1, "disc")])
        self.kinds(reading_in("at least 2 rod"), ["part cap", "part bar", "part tube", "part pin"], [(0, "bar"), (1, "tube")])

    def test_bounds(self):
        own = thing_in("part cap", "size long 5")
        for others, expected in (
            ([3], [("least", 0, "long", 4)]), ([5], []), ([7], [("most", 0, "long", 6)]), ([4, 6], [("least", 0, "long", 5), ("most", 0, "long", 5)]),
            ([1, 3, 2], [("least", 0, "long", 4)]), ([9, 7, 8], [("most", 0, "long", 6)]), ([], []), ([5, 5, 9], [("most", 0, "long", 8)]),
            ([-9, BIG], [("least", 0, "long", -8), ("most", 0, "long", BIG - 1)]), ([-BIG], [("least", 0, "long", 1 - BIG)]),
        ):
            older = ([("plate", [("long", number)]) for number in others] + [("cap", [])], [], [])
            self.tells(reading_in("a cap"), own, older, expected)

    def test_bounds_of_another_word(self):
        self.tells(reading_in("a cap"), thing_in("part cap", "size long 5"), thing_in("part cap", "size wide 3"), [])

    # What the reading bounds already is no matter: it is at hand all the same.
    def test_bounds_that_the_reading_has(self):
        older = thing_in("part cap", "size long 3", "part cap", "size long 7")
        expected = [("least", 0, "long", 4), ("most", 0, "long", 6)]
        self.tells(reading_in("a cap", "the cap long of 5"), thing_in("part cap", "size long 5"), older, expected)

    def test_bounds_of_several_sizes_and_parts(self):
        own = thing_in("part cap", "part disc", "size wide 2", "size long 5", "size deep 9", "part cap", "size long 0")
        older = thing_in("part rod", "size long 3", "size wide 4", "part bar", "size long 8", "size wide 0", "size thin 4")
        expected = [("kind", 0, "disc"), ("least", 0, "long", 4), ("most", 0, "long", 7), ("least", 0, "wide", 1), ("most", 0, "wide", 3)]
        self.tells(reading_in("a plate"), own, older, expected)
        self.tells(reading_in("a plate", "at least 2 cap"), own, older, expected + [("most", 2, "long", 2)])
        self.tells(reading_in("at least 2 cap", "a disc"), own, older, [("most", 1, "long", 2)] + [change[:1] + (2,) + change[2:] for change in expected[1:]])

    def test_joins(self):
        own = thing_in("part cap", "part disc", "part cap", "join clip 0 1", "join clip 1 2", "join clip 2 0", "join nail 1 0")
        self.tells(reading_in("a disc", "a cap"), own, EMPTY, [("join", "clip", 1, 0), ("join", "nail", 0, 1)])
        self.tells(reading_in("a disc", "a cap", "the disc nail the cap"), own, EMPTY, [("join", "clip", 1, 0)])
        self.tells(reading_in("a disc", "a cap", "the disc nail the cap", "the cap clip the disc"), own, EMPTY, [])
        self.tells(reading_in("a disc", "a cap", "the disc clip the cap"), own, EMPTY, [])
        self.tells(reading_in("a cap"), own, EMPTY, [])
        self.tells(reading_in("at least 2 cap", "a disc"), own, EMPTY,
                   [("join", "clip", 0, 2), ("join", "clip", 2, 1), ("join", "clip", 1, 0), ("join", "nail", 2, 0)])

    def test_joins_come_behind_all_parts(self):
        own = thing_in("part bar", "size long 2", "part disc", "size long 3", "join clip 1 0")
        older = thing_in("part rod", "size long 0")
        expected = [("kind", 0, "bar"), ("least", 0, "long", 1), ("kind", 1, "disc"), ("least", 1, "long", 1), ("join", "clip", 1, 0)]
        self.tells(reading_in("a rod", "a plate"), own, older, expected)

    def test_the_first_finding_counts(self):
        own = thing_in("part bar", "part tube", "size long 4", "join clip 0 1")
        older = thing_in("part rod", "size long 2")
        self.tells(reading_in("a rod"), own, older, [("kind", 0, "bar")])
        self.tells(reading_in("a rod", "the rod long at least 0"), own, older, [("kind", 0, "tube"), ("least", 0, "long", 3)])

    def test_not_own(self):
        for reading, own in (("a rod", EMPTY), ("a rod", thing_in("part cap")), ("just 1 rod", thing_in("part rod", "part bar"))):
            for older in (EMPTY, thing_in("part rod")):
                self.refused(NotOwn, {}, at_hand, KINDS, reading_in(reading), own, older)

    def test_told_is_the_askers_own(self):
        asked = (KINDS, reading_in("a rod"), thing_in("part pin"), EMPTY)
        at_hand(*asked).clear()
        self.same(at_hand(*asked), [("kind", 0, "bar"), ("kind", 0, "pin")])


class FewestTest(Checks, unittest.TestCase):
    def tells(self, reading, own, older, expected):
        handed = fresh((KINDS, reading, own, older))
        with self.subTest(reading=reading, own=own, older=older):
            told = fewest(*handed)
            self.same(told, expected)
            self.unshared(told, *handed)
            self.same(handed, (KINDS, reading, own, older))
            self.same(first_row(reading, own, older), expected)

    def test_no_change(self):
        self.tells(reading_in("a rod"), thing_in("part rod"), thing_in("part cap"), [])
        self.tells(reading_in("a rod"), thing_in("part rod"), EMPTY, [])
        self.tells(reading_in("just 1 rod"), thing_in("part rod"), thing_in("part rod", "part pin"), [])

    def test_one_change(self):
        self.tells(reading_in("a rod"), thing_in("part bar"), thing_in("part rod"), [("kind", 0, "bar")])
        self.tells(reading_in("a rod"), thing_in("part pin"), thing_in("part bar"), [("kind", 0, "pin")])
        self.tells(reading_in("a rod"), thing_in("part rod", "size long 5"), thing_in("part rod", "size long 4"), [("least", 0, "long", 5)])
        self.tells(reading_in("a rod"), thing_in("part rod", "size long 5"), thing_in("part rod", "size long 6"), [("most", 0, "long", 5)])
        own = thing_in("part rod", "part cap", "join clip 1 0")
        self.tells(reading_in("a rod", "a cap"), own, thing_in("part rod", "part cap"), [("join", "clip", 1, 0)])

    def test_the_first_of_several_that_do(self):
        own = thing_in("part pin", "size long 5", "part cap", "join clip 1 0")
        self.tells(reading_in("a rod", "a cap"), own, thing_in("part rod", "size long 4", "part cap"), [("kind", 0, "bar")])
        self.tells(reading_in("a rod", "a cap"), own, thing_in("part bar", "size long 4", "part cap"), [("kind", 0, "pin")])
        self.tells(reading_in("a rod", "a cap"), own, thing_in("part pin", "size long 4", "part cap"), [("least", 0, "long", 5)])
        self.tells(reading_in("a rod", "a cap"), own, thing_in("part pin", "size long 6", "part cap"), [("most", 0, "long", 5)])
        self.tells(reading_in("a rod", "a cap"), own, thing_in("part pin", "size long 5", "part cap"), [("join", "clip", 1, 0)])

    def test_two_changes(self):
        own = thing_in("part rod", "size long 5")
        older = thing_in("part rod", "size long 4", "part rod", "size long 6")
        self.tells(reading_in("a rod"), own, older, [("least", 0, "long", 5), ("most", 0, "long", 5)])
        own = thing_in("part bar", "size long 5", "size wide 5")
        older = thing_in("part tube", "size long 5", "size wide 5", "part bar", "size long 4", "size wide 3")
        self.tells(reading_in("a rod"), own, older, [("kind", 0, "bar"), ("least", 0, "long", 5)])

    def test_three_changes(self):
        own = thing_in("part bar", "size long 5", "size wide 5")
        older = thing_in("part tube", "size long 5", "size wide 5", "part bar", "size long 4", "size wide 5", "part bar", "size long 5", "size wide 7")
        self.tells(reading_in("a rod"), own, older, [("kind", 0, "bar"), ("least", 0, "long", 5), ("most", 0, "wide", 6)])
        older = thing_in("part rod", "part pin", "part tube")
        self.tells(reading_in("a rod", "a rod"), thing_in("part bar", "part pin"), older, [("kind", 0, "bar"), ("kind", 1, "bar")])

    def test_fewer_go_ahead_of_places(self):
        own = thing_in("part bar", "size long 5", "part cap", "join clip 0 1")
        older = thing_in("part tube", "size long 5", "part bar", "size long 6", "part cap")
        self.tells(reading_in("a rod", "a cap"), own, older, [("join", "clip", 0, 1)])

    def test_no_three_do(self):
        own = thing_in("part rod", "size long 5", "size wide 5")
        same = ["part rod", "size long 5", "size wide 5"]
        self.refused(NoChange, {}, fewest, KINDS, reading_in("a rod"), own, thing_in(*same))
        self.refused(NoChange, {}, fewest, KINDS, NOTHING, own, own)
        self.refused(NoChange, {}, fewest, KINDS, NOTHING, own, EMPTY)
        four = []
        for place, number in ((1, 4), (1, 6), (2, 4), (2, 6)):
            rows = list(same)
            rows[place] = f"size {('long', 'wide')[place - 1]} {number}"
            four += rows
        self.refused(NoChange, {}, fewest, KINDS, reading_in("a rod"), own, thing_in(*four))
        expected = [("most", 0, "long", 5), ("least", 0, "wide", 5), ("most", 0, "wide", 5)]
        self.tells(reading_in("a rod"), own, thing_in(*four[3:]), expected)

    # Two kinds of one part, the later one in the place of the earlier.
    def test_changes_are_done_in_their_order(self):
        older = thing_in("part bar", "part bar", "part pin")
        self.tells(reading_in("at least 2 rod"), thing_in("part pin", "part pin"), older, [("kind", 0, "pin"), ("kind", 1, "pin")])

    # So many joins of two parts, each of another word.
    def joined(self, count):
        words = [one + other for one in "bcdef" for other in "ghijk"][:count]
        return ([("cap", []), ("plate", [])], sorted((word, 0, 1) for word in words), [])

    def test_twenty_four_at_hand(self):
        reading = reading_in("a cap", "a plate")
        self.tells(reading, self.joined(24), self.joined(23), [("join", "fj", 0, 1)])
        self.refused(NoChange, {}, fewest, KINDS, reading, self.joined(24), self.joined(24))
        self.refused(TooMany, {}, fewest, KINDS, reading, self.joined(25), self.joined(24))
        self.refused(TooMany, {}, fewest, KINDS, reading, self.joined(25), self.joined(25))
        self.assertEqual(len(at_hand(KINDS, reading, self.joined(25), EMPTY)), 25)

    def test_not_own_goes_ahead_of_all(self):
        for older in (EMPTY, thing_in("part rod"), self.joined(25)):
            self.refused(NotOwn, {}, fewest, KINDS, reading_in("a rod"), thing_in("part cap"), older)
            self.refused(NotOwn, {}, fewest, KINDS, reading_in("a cap", "a plate", "a tube"), self.joined(25), older)

    def test_the_empty_list_goes_ahead_of_too_many(self):
        self.tells(reading_in("a cap", "a plate"), self.joined(25), thing_in("part rod"), [])
        self.same(fewest(KINDS, reading_in("a cap", "a plate"), self.joined(25), EMPTY), [])

    def test_closed_pairs(self):
        own = thing_in("part bar", "part cap")
        self.tells(reading_in("just 1 rod", "a cap"), own, thing_in("part tube", "part cap"), [("kind", 0, "bar")])
        self.refused(NoChange, {}, fewest, KINDS, reading_in("just 1 rod", "a cap"), own, thing_in("part pin", "part cap"))

    def test_held_against_all_rows(self):
        source = random.Random(21)
        lengths = []
        while len(lengths) < 600:
            reading, own, older = made_reading(source), made_thing(source), made_thing(source)
            if first_of_all(reading, own) is None or first_of_all(reading, older) is None or len(all_at_hand(reading, own, older)) > 12:
                continue
            expected = first_row(reading, own, older)
            lengths.append(None if expected is None else len(expected))
            if expected is None:
                self.refused(NoChange, {}, fewest, KINDS, reading, own, older)
            else:
                self.same(fewest(KINDS, reading, own, older), expected)
        for length in (None, 1, 2):
            self.assertGreater(lengths.count(length), 5)

    def test_told_is_the_askers_own(self):
        asked = (KINDS, reading_in("a rod"), thing_in("part bar"), thing_in("part rod"))
        fewest(*asked).clear()
        self.same(fewest(*asked), [("kind", 0, "bar")])
        nothing = (KINDS, reading_in("a rod"), thing_in("part bar"), EMPTY)
        fewest(*nothing).append(3)
        self.same(fewest(*nothing), [])

    def test_time(self):
        own = self.joined(24)
        whole = ([("cap", []), ("plate", [])] * 4, sorted((word, i, j) for word, k, m in own[1] for i in (0, 2, 4, 6) for j in (1, 3, 5, 7)), [])
        began = time.monotonic()
        self.refused(NoChange, {}, fewest, KINDS, reading_in("a cap", "a plate"), own, whole)
        self.assertLess(time.monotonic() - began, 10)


if __name__ == "__main__":
    unittest.main()

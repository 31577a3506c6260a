"""The shelf: older things, and which one of them, or which two laid together, a claim covers."""

from claimwise.covering import covers
from claimwise.errors import NoFit
from claimwise.kinds import lower_of
from claimwise.laying import joins_laid, places_laid, steps_laid


class Shelf:
    def __init__(self, kinds):
        self.kinds = list(kinds)
        self.things = []

    def put(self, thing):
        self.things.append((parts_copied(thing[0]), list(thing[1]), list(thing[2])))
        return len(self.things) - 1

    def taker(self, readings):
        for number, thing in enumerate(self.things):
            covering = covers(self.kinds, readings, thing)
            if covering is not None:
                return (number, covering[1])
        return None

    def pair(self, readings):
        count = len(self.things)
        for one in range(count):
            for other in range(one + 1, count):
                found = covered_together(self.kinds, readings, self.things[one], self.things[other])
                if found is not None:
                    return (one, other, found[0], found[1])
        return None


def covered_together(kinds, readings, one, other):
    for spots in spots_tried(kinds, one, other):
        covering = covers(kinds, readings, together(kinds, one, other, spots))
        if covering is not None:
            return (spots, covering[1])
    return None


def spots_tried(kinds, one, other):
    tried = [[]]
    for i in range(len(one[0])):
        fitting = [j for j in range(len(other[0])) if part_shared(kinds, one[0][i], other[0][j]) is not None]
        tried.extend([[(i, j)] for j in fitting])
    return tried


def together(kinds, one, other, spots):
    refuse_bad_spots(one, other, spots)
    parts = parts_copied(one[0])
    for i, j in spots:
        parts[i] = part_shared(kinds, one[0][i], other[0][j])
    if None in parts:
        raise NoFit()
    places = places_laid(len(one[0]), len(other[0]), spots)
    taken = [j for i, j in spots]
    parts.extend([part for j, part in enumerate(parts_copied(other[0])) if j not in taken])
    return (parts, joins_laid(one[1], other[1], places), steps_laid(one[2], other[2], places))


def parts_copied(parts):
    return [(kind, list(sizes)) for kind, sizes in parts]


def refuse_bad_spots(one, other, spots):
    firsts = [i for i, j in spots]
    seconds = [j for i, j in spots]
    if not are_parts(firsts, one) or not are_parts(seconds, other):
        raise NoFit()


def are_parts(numbers, thing):
    return len(set(numbers)) == len(numbers) and all([0 <= number < len(thing[0]) for number in numbers])


# The one part that two become, or None where they don't fit.
def part_shared(kinds, one, other):
    kind = lower_of(kinds, one[0], other[0])
    numbers = dict(one[1])
    for word, number in other[1]:
        if numbers.setdefault(word, number) != number:
            return None
    return None if kind is None else (kind, sorted(numbers.items()))

"""Standing: whether two claims cover a thing together, and how they stand to one another."""

from claimwise.covering import leaves_room
from claimwise.ground import greatest, least
from claimwise.kinds import lower_of
from claimwise.laying import joins_laid, places_laid, steps_laid
from claimwise.leasts import refuse_too_many
from claimwise.narrowing import narrower


def standing(kinds, one, other):
    refuse_too_many(one, other)
    refuse_too_many(other, one)
    told = narrower(kinds, one, other)
    turned = narrower(kinds, other, one)
    if told[0] and turned[0]:
        return ("same", [])
    if told[0]:
        return ("narrower", [turned[1]])
    if turned[0]:
        return ("wider", [told[1]])
    both = apart(kinds, one, other)
    if both is None:
        return ("apart", [told[1], turned[1]])
    return ("across", [told[1], turned[1], both])


def apart(kinds, one, other):
    for first in one:
        for second in other:
            thing = thing_of_both(kinds, first, second)
            if thing is not None:
                return thing
    return None


# A thing that both cover needs no part but those found for a part of the first, for one of the second, or for one of
# each. Whether there can be such a part is told by these two alone, so all that is left to choose is the pairs.
def thing_of_both(kinds, first, second):
    alone = [part_for(kinds, first, i, second, None) for i in range(len(first[0]))]
    behind = [part_for(kinds, first, None, second, j) for j in range(len(second[0]))]
    shared = {}
    for i in range(len(alone)):
        for j in range(len(behind)):
            shared[(i, j)] = part_for(kinds, first, i, second, j)
    partners = first_partners(alone, behind, shared, [])
    if partners is None:
        return None
    parts = [alone[i] if j is None else shared[(i, j)] for i, j in enumerate(partners)]
    spots = [(i, j) for i, j in enumerate(partners) if j is not None]
    places = places_laid(len(parts), len(behind), spots)
    parts.extend([part for j, part in enumerate(behind) if j not in partners])
    return (parts, joins_laid(first[2], second[2], places), steps_laid(first[4], second[4], places))


# For each part of the first its partner, or None where it stands alone; those of the second without one stand behind.
def first_partners(alone, behind, shared, partners):
    i = len(partners)
    if i == len(alone):
        lacking = [j for j, part in enumerate(behind) if part is None and j not in partners]
        return partners if lacking == [] else None
    choices = [j for j in range(len(behind)) if shared[(i, j)] is not None and j not in partners]
    if alone[i] is not None:
        choices.append(None)
    for choice in choices:
        found = first_partners(alone, behind, shared, partners + [choice])
        if found is not None:
            return found
    return None


# A part that may be found for part i of the first and part j of the second (None for no part), or None.
def part_for(kinds, first, i, second, j):
    sizes = sizes_for(first, i, second, j)
    if sizes is None:
        return None
    for kind in kinds_for(kinds, first, i, second, j):
        if leaves_room(kinds, first, i, kind) and leaves_room(kinds, second, j, kind):
            return (kind, sizes)
    return None


# Kinds below these would come under all that these are under, so closed pairs would leave no more room for them.
def kinds_for(kinds, first, i, second, j):
    if j is None:
        return first[0][i]
    if i is None:
        return second[0][j]
    lowers = []
    for kind in first[0][i]:
        lowers.extend([lower_of(kinds, kind, other) for other in second[0][j]])
    return [kind for kind in lowers if kind is not None]


def sizes_for(first, i, second, j):
    bounds = {}
    for number, word, lo, hi in first[3]:
        if number == i:
            bounds[word] = (lo, hi)
    for number, word, lo, hi in second[3]:
        if number == j:
            above = bounds.get(word, (None, None))
            bounds[word] = (greatest(above[0], lo), least(above[1], hi))
    sizes = []
    for word in sorted(bounds):
        lo = bounds[word][0]
        hi = bounds[word][1]
        if lo is not None and hi is not None and lo > hi:
            return None
        sizes.append((word, hi if lo is None else lo))
    return sizes

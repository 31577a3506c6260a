"""Changes: what may be changed in a reading, and the fewest changes by which it no longer covers an older thing."""

from claimwise.covering import finding_in, is_under_one
from claimwise.errors import NoChange, NotOwn, TooMany
from claimwise.ground import greatest, least
from claimwise.kinds import is_under

MOST_AT_HAND = 24
MOST_CHANGES = 3


def changed(reading, changes):
    parts = list(reading[0])
    joins = dict([(join, True) for join in reading[2]])
    bounds = dict([((i, word), (lo, hi)) for i, word, lo, hi in reading[3]])
    for change in changes:
        if change[0] == "kind":
            parts[change[1]] = (change[2],)
        elif change[0] == "join":
            joins[(change[1], change[2], change[3])] = True
        else:
            key = (change[1], change[2])
            bounds[key] = sharper(bounds.get(key, (None, None)), change[0], change[3])
    sizes = [(key[0], key[1], bounds[key][0], bounds[key][1]) for key in sorted(bounds)]
    return (parts, list(reading[1]), sorted(joins), sizes, list(reading[4]))


def sharper(bounds, side, number):
    if side == "least":
        return (greatest(bounds[0], number), bounds[1])
    return (bounds[0], least(bounds[1], number))


def at_hand(kinds, reading, own, older):
    finding = finding_in(kinds, reading, own)
    if finding is None:
        raise NotOwn()
    changes = []
    for i, part in enumerate(finding):
        changes.extend(kinds_at_hand(kinds, reading, i, own[0][part][0]))
        changes.extend(bounds_at_hand(i, own[0][part][1], older))
    return changes + joins_at_hand(reading, own, finding)


def kinds_at_hand(kinds, reading, i, kind):
    told = reading[0][i]
    words = [pair[0] for pair in kinds if is_under(kinds, kind, pair[0]) and is_under_one(kinds, pair[0], told)]
    return [("kind", i, word) for word in words if tuple(told) != (word,)]


def bounds_at_hand(i, sizes, older):
    changes = []
    for word, number in sizes:
        others = numbers_of(word, older)
        below = max([other for other in others if other < number], default=None)
        above = min([other for other in others if other > number], default=None)
        if below is not None:
            changes.append(("least", i, word, below + 1))
        if above is not None:
            changes.append(("most", i, word, above - 1))
    return changes


def numbers_of(word, thing):
    numbers = []
    for kind, sizes in thing[0]:
        numbers.extend([number for told, number in sizes if told == word])
    return numbers


def joins_at_hand(reading, own, finding):
    changes = []
    for word, begin, end in own[1]:
        if begin in finding and end in finding:
            i = finding.index(begin)
            j = finding.index(end)
            if (word, i, j) not in reading[2]:
                changes.append(("join", word, i, j))
    return changes


def fewest(kinds, reading, own, older):
    changes = at_hand(kinds, reading, own, older)
    if finding_in(kinds, reading, older) is None:
        return []
    if len(changes) > MOST_AT_HAND:
        raise TooMany()
    for count in range(1, MOST_CHANGES + 1):
        for chosen in rows_of(changes, count):
            if finding_in(kinds, changed(reading, chosen), older) is None:
                return chosen
    raise NoChange()


# So many of the changes in their order, first those whose places come first.
def rows_of(changes, count):
    if count == 0:
        return [[]]
    rows = []
    for place, change in enumerate(changes):
        rows.extend([[change] + row for row in rows_of(changes[place + 1:], count - 1)])
    return rows

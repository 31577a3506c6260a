"""Narrowing: whether each thing that one claim covers is covered by another, or a thing that shows that it is not."""

from claimwise.covering import Ready, covers, finding_ready, is_under_one, leaves_room
from claimwise.kinds import is_under
from claimwise.leasts import least_things


def narrower(kinds, one, other):
    leasts = least_things(kinds, one, other)
    papers = []
    for number, thing in leasts:
        paper = covers(kinds, other, thing)
        if paper is None:
            return (False, thing)
        papers.append((thing, paper[0], paper[1]))
    for least, paper in zip(leasts, papers):
        greater = uncovered_above(kinds, one[least[0]], other, paper)
        if greater is not None:
            return (False, greater)
    return (True, papers)


# More joins, steps and sizes than a least thing has only help the others to cover it. So do more parts and parts of
# lower kinds, but for those that come under a kind which a closed pair of the others shuts: these alone are tried,
# each time against a reading that still covers the thing, and given up where nothing more can be put against one.
def uncovered_above(kinds, reading, other, paper):
    thing = paper[0]
    told = [part[0] for part in thing[0]]
    if not all([leaves_room(kinds, reading, part, kind) for part, kind in enumerate(told)]):
        return None
    tried = {}
    waiting = ways_past(kinds, reading, other[paper[1]], told)
    while waiting != []:
        told = waiting.pop()
        if tuple(told) not in tried:
            tried[tuple(told)] = True
            greater = with_kinds(thing, told)
            ways = ways_past_one(kinds, reading, other, told, greater)
            if ways is None:
                return greater
            waiting.extend(ways)
    return None


def with_kinds(thing, told):
    parts = [(kind, part[1]) for kind, part in zip(told, thing[0])]
    parts.extend([(kind, []) for kind in told[len(parts):]])
    return (parts, thing[1], thing[2])


# Of the readings that cover the thing, the one that leaves the fewest ways; None where no reading covers it.
def ways_past_one(kinds, reading, other, told, thing):
    ready = Ready(kinds, thing)
    fewest = None
    for closing in other:
        if finding_ready(closing, ready) is not None:
            ways = ways_past(kinds, reading, closing, told)
            if ways == []:
                return []
            if fewest is None or len(ways) < len(fewest):
                fewest = ways
    return fewest


# Each way is the kinds of the parts with one part more, or one of a lower kind, that `closing` shuts.
def ways_past(kinds, reading, closing, told):
    ways = []
    for shut, numbers in closing[1]:
        for kind in shut:
            ways.extend(ways_lower(kinds, reading, shut, kind, told))
            if leaves_room(kinds, reading, len(told), kind):
                ways.append(in_order(reading, told + [kind]))
    return ways


def ways_lower(kinds, reading, shut, kind, told):
    ways = []
    for part, upper in enumerate(told):
        if is_under(kinds, kind, upper) and not is_under_one(kinds, upper, shut):
            if leaves_room(kinds, reading, part, kind):
                ways.append(in_order(reading, told[:part] + [kind] + told[part + 1:]))
    return ways


# The parts more are alike but for their kinds: in order, so that what has been tried is known again.
def in_order(reading, told):
    count = len(reading[0])
    return told[:count] + sorted(told[count:])

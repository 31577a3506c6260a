"""Covering: how a reading is found in a thing, and which of several readings covers it first."""

from claimwise.kinds import is_under


def covers(kinds, readings, thing):
    for number, reading in enumerate(readings):
        finding = finding_in(kinds, reading, thing)
        if finding is not None:
            return (number, finding)
    return None


def finding_in(kinds, reading, thing):
    closed = [(numbers, parts_under(kinds, thing, told)) for told, numbers in reading[1]]
    # More parts than numbers to find them for: no search is needed to tell that one is left over.
    if any([len(shut) > len(numbers) for numbers, shut in closed]):
        return None
    choices = [choices_for(kinds, reading, thing, closed, i) for i in range(len(reading[0]))]
    return first_finding(reading, thing, closed, choices, [])


def parts_under(kinds, thing, uppers):
    return [part for part, told in enumerate(thing[0]) if is_under_one(kinds, told[0], uppers)]


def is_under_one(kinds, kind, uppers):
    return any([is_under(kinds, kind, upper) for upper in uppers])


# The parts of the thing that may be found for part i, as far as this part alone can tell.
def choices_for(kinds, reading, thing, closed, i):
    bounds = [(word, lo, hi) for number, word, lo, hi in reading[3] if number == i]
    barred = []
    for numbers, shut in closed:
        if i not in numbers:
            barred.extend(shut)
    fitting = parts_under(kinds, thing, reading[0][i])
    return [part for part in fitting if part not in barred and has_sizes(thing[0][part][1], bounds)]


def has_sizes(sizes, bounds):
    numbers = dict(sizes)
    for word, lo, hi in bounds:
        number = numbers.get(word)
        if number is None or (lo is not None and number < lo) or (hi is not None and number > hi):
            return False
    return True


# Parts are tried from the lowest number on, so the first one found whole is the first of all findings.
def first_finding(reading, thing, closed, choices, found):
    if len(found) == len(choices):
        return found if all_shut_found(closed, found) else None
    for part in choices[len(found)]:
        more = found + [part]
        if part not in found and joins_hold(reading[2], thing[1], more) and steps_hold(reading[4], thing[2], more):
            finding = first_finding(reading, thing, closed, choices, more)
            if finding is not None:
                return finding
    return None


def all_shut_found(closed, found):
    for numbers, shut in closed:
        parts = [found[number] for number in numbers]
        if any([part not in parts for part in shut]):
            return False
    return True


# Asked of the parts found so far: joins and steps of the others can't be told yet.
def joins_hold(joins, told, found):
    count = len(found)
    for word, i, j in joins:
        if i < count and j < count and (word, found[i], found[j]) not in told:
            return False
    return True


def steps_hold(steps, told, found):
    place = 0
    for word, i in steps:
        if i < len(found):
            while place < len(told) and told[place] != (word, found[i]):
                place += 1
            if place == len(told):
                return False
            place += 1
    return True

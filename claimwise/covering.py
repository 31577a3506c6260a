"""Covering: how a reading is found in a thing, and which of several readings covers it first."""

from claimwise.kinds import is_under, uppers_of


# A thing as readings are held against it, made ready once for all of them.
class Ready:
    def __init__(self, kinds, thing):
        self.sizes = [dict(sizes) for kind, sizes in thing[0]]
        self.uppers = [uppers_of(kinds, kind) for kind, sizes in thing[0]]
        self.joins = dict([(join, True) for join in thing[1]])
        self.steps = thing[2]
        self.marks = marks_of(thing[1], thing[2])


def covers(kinds, readings, thing):
    ready = Ready(kinds, thing)
    for number, reading in enumerate(readings):
        finding = finding_ready(reading, ready)
        if finding is not None:
            return (number, finding)
    return None


def finding_in(kinds, reading, thing):
    return finding_ready(reading, Ready(kinds, thing))


def finding_ready(reading, ready):
    if len(reading[0]) > len(ready.sizes):
        return None
    closed = [(numbers, parts_under(ready.uppers, told)) for told, numbers in reading[1]]
    # More parts than numbers to find them for: no search is needed to tell that one is left over.
    if any([len(shut) > len(numbers) for numbers, shut in closed]):
        return None
    choices = choices_of(reading, ready, closed)
    return None if choices is None else first_finding(reading, ready, closed, choices)


def parts_under(uppers, told):
    return [part for part, above in enumerate(uppers) if any([kind in told for kind in above])]


# For each part of the reading the parts of the thing that may be found for it, as far as this part alone can tell; None
# where there is none for one of them.
def choices_of(reading, ready, closed):
    marks = marks_of(reading[2], reading[4])
    choices = []
    for i, told in enumerate(reading[0]):
        fitting = open_for(closed, parts_under(ready.uppers, told), i)
        bounds = [(word, lo, hi) for number, word, lo, hi in reading[3] if number == i]
        wanted = [(mark, word) for mark, word, number in marks if number == i]
        choices.append([part for part in fitting if has_sizes(ready, part, bounds) and has_marks(ready, part, wanted)])
        if choices[-1] == []:
            return None
    return choices


# At which parts joins begin, joins end and steps are done.
def marks_of(joins, steps):
    marks = {}
    for word, i, j in joins:
        marks[("from", word, i)] = True
        marks[("to", word, j)] = True
    for word, i in steps:
        marks[("then", word, i)] = True
    return marks


def open_for(closed, parts, i):
    for numbers, shut in closed:
        if i not in numbers:
            parts = [part for part in parts if part not in shut]
    return parts


def has_sizes(ready, part, bounds):
    for word, lo, hi in bounds:
        number = ready.sizes[part].get(word)
        if number is None or (lo is not None and number < lo) or (hi is not None and number > hi):
            return False
    return True


def has_marks(ready, part, wanted):
    return all([(mark, word, part) in ready.marks for mark, word in wanted])


# From some finding to the first one: part by part, a lower choice is taken wherever a finding goes on from it.
def first_finding(reading, ready, closed, choices):
    finding = some_finding(reading, ready, closed, choices)
    if finding is None:
        return None
    for i in range(len(choices)):
        ahead = finding[:i]
        for part in [part for part in choices[i] if part < finding[i] and part not in ahead]:
            tried = [[found] for found in ahead] + [[part]] + choices[i + 1:]
            lower = some_finding(reading, ready, closed, tried)
            if lower is not None:
                finding = lower
                break
    return finding


# The parts with one choice and those that many joins and steps bind come first: where these fail, the others need not
# be tried.
def some_finding(reading, ready, closed, choices):
    weights = [0 for choice in choices]
    for word, i, j in reading[2]:
        weights[i] += 1
        weights[j] += 1
    for word, i in reading[4]:
        weights[i] += 1
    order = sorted(range(len(choices)), key=lambda i: (min(len(choices[i]), 2), -weights[i]))
    return finding_from(reading, ready, closed, choices, order, [None for choice in choices])


def finding_from(reading, ready, closed, choices, order, found):
    if order == []:
        return found if all_shut_found(closed, found) else None
    for part in choices[order[0]]:
        if part not in found:
            more = list(found)
            more[order[0]] = part
            if joins_hold(reading[2], ready.joins, more) and steps_hold(reading[4], ready.steps, more):
                finding = finding_from(reading, ready, closed, choices, order[1:], more)
                if finding is not None:
                    return finding
    return None


def all_shut_found(closed, found):
    for numbers, shut in closed:
        parts = [found[number] for number in numbers]
        if any([part not in parts for part in shut]):
            return False
    return True


# Asked of the parts found so far: joins and steps of the others can't be told yet.
def joins_hold(joins, told, found):
    for word, i, j in joins:
        if found[i] is not None and found[j] is not None and (word, found[i], found[j]) not in told:
            return False
    return True


def steps_hold(steps, told, found):
    place = 0
    for word, i in steps:
        if found[i] is not None:
            while place < len(told) and told[place] != (word, found[i]):
                place += 1
            if place == len(told):
                return False
            place += 1
    return True


# Whether the closed pairs leave room for a part of this kind that is found for this number, or for none of theirs.
def leaves_room(kinds, reading, number, kind):
    for told, numbers in reading[1]:
        if number not in numbers and is_under_one(kinds, kind, told):
            return False
    return True


def is_under_one(kinds, kind, uppers):
    return any([is_under(kinds, kind, upper) for upper in uppers])

"""Least things: the things of a claim's readings that have no more than these ask for."""

from claimwise.covering import finding_in
from claimwise.errors import TooMany

MOST_LEAST_THINGS = 200


def least_things(kinds, one, other):
    refuse_too_many(one, other)
    leasts = []
    for number, reading in enumerate(one):
        for thing in things_chosen(reading, other):
            if finding_in(kinds, reading, thing) is not None:
                leasts.append((number, thing))
    return leasts


# Counted ahead of building any: there may be far too many to build.
def refuse_too_many(one, other):
    if sum([count_of_choices(reading, other) for reading in one]) > MOST_LEAST_THINGS:
        raise TooMany()


def count_of_choices(reading, other):
    count = 1
    for told in reading[0]:
        count *= len(told)
    for size in reading[3]:
        count *= len(numbers_for(size, other))
    return count


# Between two cuts next to one another all numbers are alike to the others' bounds, so the least one stands for all.
def numbers_for(size, other):
    cuts = cuts_at(size[1], other)
    lo = size[2]
    hi = size[3]
    if lo is None:
        lo = min(cuts + [hi]) - 1
    elif hi is not None and lo > hi:
        return []
    return sorted(set([lo] + [cut for cut in cuts if lo <= cut and (hi is None or cut <= hi)]))


def cuts_at(word, readings):
    cuts = []
    for reading in readings:
        for size in reading[3]:
            if size[1] == word and size[2] is not None:
                cuts.append(size[2])
            if size[1] == word and size[3] is not None:
                cuts.append(size[3] + 1)
    return cuts


def things_chosen(reading, other):
    # One size without a number leaves no thing, however many choices the others have.
    if count_of_choices(reading, other) == 0:
        return []
    chosen_numbers = choices_from([numbers_for(size, other) for size in reading[3]])
    things = []
    for chosen_kinds in choices_from(reading[0]):
        things.extend([thing_chosen(reading, chosen_kinds, numbers) for numbers in chosen_numbers])
    return things


# One from each list, the last one's choice changing first.
def choices_from(lists):
    rows = [[]]
    for choices in lists:
        longer = []
        for row in rows:
            longer.extend([row + [choice] for choice in choices])
        rows = longer
    return rows


def thing_chosen(reading, chosen_kinds, numbers):
    parts = [(kind, []) for kind in chosen_kinds]
    for size, number in zip(reading[3], numbers):
        parts[size[0]][1].append((size[1], number))
    return (parts, list(reading[2]), list(reading[4]))

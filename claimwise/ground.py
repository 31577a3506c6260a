"""Ground: the chains of a claim, and what each word of a chain's rows means."""

from claimwise.errors import NoGround, NoKind, NoRange, NotUnder, TooBig, TwoGrounds
from claimwise.kinds import is_under

MOST_CHAINS = 6
MOST_PARTS = 5


class Group:
    def __init__(self, label, kinds, numbers):
        self.label = label
        self.kinds = kinds
        self.numbers = numbers


# What the rows walked so far have told, and the claim and row where the walk stands.
class Walk:
    def __init__(self, kinds):
        self.kinds = kinds
        self.claim = 0
        self.row = 0
        self.groups = []
        self.closed = []
        self.joins = {}
        self.bounds = {}
        self.steps = []


def chains_of(claims, number):
    if count_of_chains(claims, number) > MOST_CHAINS:
        raise TooBig(number, 0)
    return chains_to(claims, number)


# Counted ahead, since a few claims that take all above them have far too many chains to build.
def count_of_chains(claims, number):
    counts = [0]
    for takes, rows in claims[:number]:
        counts.append(1 if takes == [] else sum([counts[taken] for taken in takes]))
    return counts[number]


def chains_to(claims, number):
    takes = claims[number - 1][0]
    if takes == []:
        return [[number]]
    chains = []
    for taken in takes:
        chains.extend([chain + [number] for chain in chains_to(claims, taken)])
    return chains


def readings_of(kinds, claims, number):
    return [reading_of(kinds, claims, chain) for chain in chains_of(claims, number)]


def reading_of(kinds, claims, chain):
    walk = Walk(kinds)
    for number in chain:
        walk.claim = number
        for place, row in enumerate(claims[number - 1][1]):
            walk.row = place
            take_row(walk, row)
    return reading_told(walk)


def reading_told(walk):
    parts = []
    for group in walk.groups:
        parts.extend([group.kinds for number in group.numbers])
    sizes = [(key[0], key[1], walk.bounds[key][0], walk.bounds[key][1]) for key in sorted(walk.bounds)]
    return (parts, walk.closed, sorted(walk.joins), sizes, walk.steps)


def take_row(walk, row):
    refuse_no_kind(walk, row)
    if row[0] == "parts":
        take_parts(walk, row[1], row[2], row[3], tuple(row[4]))
    elif row[0] == "join":
        one = group_meant(walk, row[1], 0)
        other = group_meant(walk, row[3], 1)
        take_join(walk, one, row[2], other)
    elif row[0] == "size":
        take_size(walk, group_meant(walk, row[1], 0), row[2], row[3], row[4])
    elif row[0] == "is":
        take_is(walk, group_meant(walk, row[1], 0), tuple(row[2]))
    else:
        take_step(walk, row[1], group_meant(walk, row[2], 0))


def refuse_no_kind(walk, row):
    words_of_kinds = [pair[0] for pair in walk.kinds]
    for word in kinds_named(row):
        if word not in words_of_kinds:
            raise NoKind(walk.claim, walk.row)


def kinds_named(row):
    if row[0] == "parts":
        return row[4]
    if row[0] == "join":
        return [row[1][1], row[3][1]]
    if row[0] == "size":
        return [row[1][1]]
    if row[0] == "is":
        return [row[1][1]] + row[2]
    return [row[2][1]]


def group_meant(walk, ref, word):
    meant = [group for group in walk.groups if is_meant(walk.kinds, group, ref)]
    if meant == []:
        raise NoGround(walk.claim, walk.row, word)
    if len(meant) > 1:
        raise TwoGrounds(walk.claim, walk.row, word)
    return meant[0]


def is_meant(kinds, group, ref):
    if ref[0] != "" and ref[0] != group.label:
        return False
    return all([is_under(kinds, kind, ref[1]) for kind in group.kinds])


def take_parts(walk, many, closed, label, kinds):
    count = sum([len(group.numbers) for group in walk.groups])
    if count + many > MOST_PARTS:
        raise TooBig(walk.claim, walk.row)
    numbers = tuple(range(count, count + many))
    walk.groups.append(Group(label, kinds, numbers))
    if closed:
        walk.closed.append((kinds, numbers))


def take_join(walk, one, word, other):
    for i in one.numbers:
        for j in other.numbers:
            if i != j:
                walk.joins[(word, i, j)] = True


def take_size(walk, group, word, lo, hi):
    for i in group.numbers:
        above = walk.bounds.get((i, word), (None, None))
        bounds = (greatest(above[0], lo), least(above[1], hi))
        if bounds[0] is not None and bounds[1] is not None and bounds[0] > bounds[1]:
            raise NoRange(walk.claim, walk.row)
        walk.bounds[(i, word)] = bounds


def greatest(one, other):
    return max([bound for bound in (one, other) if bound is not None], default=None)


def least(one, other):
    return min([bound for bound in (one, other) if bound is not None], default=None)


def take_is(walk, group, kinds):
    for kind in kinds:
        if not any([is_under(walk.kinds, kind, upper) for upper in group.kinds]):
            raise NotUnder(walk.claim, walk.row)
    group.kinds = kinds


def take_step(walk, word, group):
    walk.steps.extend([(word, i) for i in group.numbers])

"""What several of the tests share: checks, made things and readings, and plain ways to tell what covers what."""

import copy
import itertools

from claimwise.errors import ClaimError
from claimwise.ground import readings_of
from claimwise.things import read_thing
from claimwise.tongue import read_claims

# rod over bar and tube, bar over pin; plate over disc; cap by itself.
KINDS = [("rod", ""), ("bar", "rod"), ("tube", "rod"), ("pin", "bar"), ("plate", ""), ("disc", "plate"), ("cap", "")]
KEPT = "a an the said claim on or then from to of at least most just is".split()
NO_WORDS = KEPT + ["ninelette", "Rod", "rOD", "rod1", "1", "0", "-1", "ro-d", "rod.", "rod,", "~", "!", "_rod", "ro_d"]
NO_NUMBERS = """
    -0 00 01 -01 007 +1 +0 1.0 1, 1_0 1e3 0x1 - -- --1 1- x rod the ~ True None
    1111111111222222222233333333334 -1111111111222222222233333333334
""".split()
THIRTY = "123456789012345678901234567890"
EMPTY = ([], [], [])
UPPERS = dict(KINDS)


def lists_in(value):
    """All lists in a told value, however deep, each as often as it is met."""
    found = [value] if isinstance(value, list) else []
    if isinstance(value, (list, tuple)):
        for inner in value:
            found.extend(lists_in(inner))
    return found


def fresh(value):
    """A copy in which no two lists are one and the same, even where they are so in the value."""
    if isinstance(value, (list, tuple)):
        return type(value)(fresh(inner) for inner in value)
    return value


class Checks:
    def refused(self, refusal, fields, call, *arguments):
        kept = copy.deepcopy(arguments)
        with self.assertRaises(ClaimError) as caught:
            call(*arguments)
        error = caught.exception
        self.assertIs(type(error), refusal)
        self.assertEqual(type(error).__bases__, (ClaimError,))
        self.assertEqual(vars(error), fields)
        for value in vars(error).values():
            self.assertIs(type(value), int)
        self.assertEqual(arguments, kept)

    # Equal and of the same sorts all the way down: 1 is not True, a list is no tuple.
    def same(self, told, expected):
        self.assertEqual(repr(told), repr(expected))
        self.assertEqual(told, expected)

    # No two lists of these values are one and the same.
    def unshared(self, *values):
        lists = lists_in(list(values))
        self.assertEqual(len({id(found) for found in lists}), len(lists))


def thing_in(*rows):
    return read_thing(KINDS, "\n".join(rows))


def reading_in(*rows):
    return readings_of(KINDS, read_claims("\n".join(("claim",) + rows)), 1)[0]


def under(one, other):
    while one:
        if one == other:
            return True
        one = UPPERS[one]
    return False


def under_one(kind, others):
    return any(under(kind, other) for other in others)


# The promises one by one, asked of a list of parts that is whole.
def is_finding(reading, thing, found):
    parts, closed, joins, sizes, steps = reading
    for kinds, place in zip(parts, found):
        if not under_one(thing[0][place][0], kinds):
            return False
    for i, word, lo, hi in sizes:
        numbers = [number for told, number in thing[0][found[i]][1] if told == word]
        if not any((lo is None or lo <= number) and (hi is None or number <= hi) for number in numbers):
            return False
    if any((word, found[i], found[j]) not in thing[1] for word, i, j in joins):
        return False
    wanted = tuple((word, found[i]) for word, i in steps)
    if wanted not in itertools.combinations(thing[2], len(wanted)):
        return False
    for kinds, numbers in closed:
        for place, told in enumerate(thing[0]):
            if under_one(told[0], kinds) and place not in [found[number] for number in numbers]:
                return False
    return True


# Permutations of rising numbers come in the order of lists.
def first_of_all(reading, thing):
    for found in itertools.permutations(range(len(thing[0])), len(reading[0])):
        if is_finding(reading, thing, found):
            return list(found)
    return None


def made_reading(source):
    kinds = [word for word, upper in KINDS[:5]]
    count = source.randint(0, 4)
    parts = [tuple(source.sample(kinds, source.choice((1, 1, 2)))) for _ in range(count)]
    closed = []
    if count and source.random() < 0.4:
        numbers = tuple(sorted(source.sample(range(count), source.randint(1, count))))
        inner = tuple(source.sample(kinds, source.randint(1, 2)))
        if all(all(under_one(kind, inner) for kind in parts[number]) for number in numbers):
            closed.append((inner, numbers))
    pairs = list(itertools.permutations(range(count), 2))
    joins = sorted({("clip",) + source.choice(pairs) for _ in range(source.randint(0, 2))}) if pairs else []
    sizes = []
    for i in range(count):
        if source.random() < 0.3:
            lo = source.choice((None, 0, 1))
            sizes.append((i, "long", lo, source.choice((2, 3)) if lo is None else source.choice((None, 1, 2))))
    steps = [(source.choice(["weld", "bend"]), source.randrange(count)) for _ in range(source.randint(0, 3))] if count else []
    return (parts, closed, joins, sizes, steps)


def made_thing(source):
    kinds = [word for word, upper in KINDS[:5]]
    count = source.randint(0, 6)
    parts = []
    for _ in range(count):
        parts.append((source.choice(kinds), [("long", source.randint(-1, 3))] if source.random() < 0.8 else []))
    pairs = list(itertools.permutations(range(count), 2))
    joins = sorted(("clip",) + pair for pair in source.sample(pairs, len(pairs) * 2 // 3))
    steps = [(source.choice(["weld", "bend"]), source.randrange(count)) for _ in range(8)] if count else []
    return (parts, joins, steps)


def reading_covering(readings, thing):
    """The number and finding of the first reading that covers, or None."""
    for number, reading in enumerate(readings):
        found = first_of_all(reading, thing)
        if found is not None:
            return (number, found)
    return None


# The numbers of a range at which something changes for one of the bounds of the other readings.
def numbers_of(word, lo, hi, other):
    sizes = [size for reading in other for size in reading[3] if size[1] == word]
    cuts = {size[2] for size in sizes if size[2] is not None} | {size[3] + 1 for size in sizes if size[3] is not None}
    begin = min(cuts | {hi}) - 1 if lo is None else lo
    return sorted(number for number in cuts | {begin} if begin <= number and (hi is None or number <= hi))


def leasts_of(one, other):
    leasts = []
    for number, (parts, closed, joins, sizes, steps) in enumerate(one):
        choices = [numbers_of(word, lo, hi, other) for i, word, lo, hi in sizes]
        for kinds in itertools.product(*parts):
            for chosen in itertools.product(*choices):
                told = [(kind, []) for kind in kinds]
                for (i, word, lo, hi), value in zip(sizes, chosen):
                    told[i][1].append((word, value))
                thing = (told, list(joins), list(steps))
                if first_of_all(one[number], thing) is not None:
                    leasts.append((number, thing))
    return leasts


def readings_in(*texts):
    """A reading for each text, its rows parted by `;`."""
    return [reading_in(*[row for row in text.split(";") if row.strip()]) for text in texts]


# All things of at most so many parts, without sizes, joins and steps.
def bare_things(kinds, most):
    for count in range(most + 1):
        for chosen in itertools.combinations_with_replacement(kinds, count):
            yield ([(kind, []) for kind in chosen], [], [])


def rises(values):
    return all(one < other for one, other in zip(values, values[1:]))


def is_thing(thing):
    """Whether a value has the form of a thing, of any size, with kinds of KINDS."""
    if type(thing) is not tuple or [type(inner) for inner in thing] != [list] * 3:
        return False
    parts, joins, steps = thing
    numbers = range(len(parts))
    for part in parts:
        if type(part) is not tuple or len(part) != 2 or part[0] not in UPPERS or type(part[1]) is not list:
            return False
        words = [word for word, number in part[1]]
        if not rises(words) or any(type(size) is not tuple or type(size[1]) is not int for size in part[1]):
            return False
    if not rises(joins) or any(type(inner) is not tuple for inner in joins + steps):
        return False
    if any(i == j or i not in numbers or j not in numbers for word, i, j in joins):
        return False
    return all(i in numbers for word, i in steps)

"""Things: parts with their sizes, joins and steps, how they are read and how they are written."""

from claimwise.errors import BadRow, NoKind, NoPart, TooBig, Twice
from claimwise.words import is_word, number_in, rows_in

MOST_PARTS = 8
MOST_SIZES = 4
MOST_JOINS = 16
MOST_STEPS = 8


def read_thing(kinds, text):
    words_of_kinds = [pair[0] for pair in kinds]
    parts = []
    joins = []
    steps = []
    for row, words in enumerate(rows_in(text)):
        if words == []:
            continue
        if words[0] == "part":
            parts.append(part_in(words, row, words_of_kinds, len(parts)))
        elif words[0] == "size" and parts != []:
            sizes = parts[-1][1]
            sizes.append(size_in(words, row, sizes))
        elif words[0] == "join":
            joins.append(join_in(words, row, len(parts), joins))
        elif words[0] == "step":
            steps.append(step_in(words, row, len(parts), len(steps)))
        else:
            raise BadRow(row)
    return ([(kind, sorted(sizes)) for kind, sizes in parts], sorted(joins), steps)


def part_in(words, row, words_of_kinds, count):
    if len(words) != 2 or not is_word(words[1]):
        raise BadRow(row)
    if words[1] not in words_of_kinds:
        raise NoKind(0, row)
    if count >= MOST_PARTS:
        raise TooBig(0, row)
    return (words[1], [])


def size_in(words, row, above):
    numbers = numbers_behind(words, 1, row)
    if words[1] in [size[0] for size in above]:
        raise Twice(row)
    if len(above) >= MOST_SIZES:
        raise TooBig(0, row)
    return (words[1], numbers[0])


def join_in(words, row, part_count, above):
    numbers = numbers_behind(words, 2, row)
    if numbers[0] == numbers[1]:
        raise BadRow(row)
    refuse_no_part(numbers, row, part_count)
    join = (words[1], numbers[0], numbers[1])
    if join in above:
        raise Twice(row)
    if len(above) >= MOST_JOINS:
        raise TooBig(0, row)
    return join


def step_in(words, row, part_count, count):
    numbers = numbers_behind(words, 1, row)
    refuse_no_part(numbers, row, part_count)
    if count >= MOST_STEPS:
        raise TooBig(0, row)
    return (words[1], numbers[0])


# Sizes, joins and steps have one form: the row's name, a word, and so many numbers.
def numbers_behind(words, count, row):
    if len(words) != 2 + count or not is_word(words[1]):
        raise BadRow(row)
    numbers = [number_in(word) for word in words[2:]]
    if None in numbers:
        raise BadRow(row)
    return numbers


def refuse_no_part(numbers, row, part_count):
    for number in numbers:
        if not 0 <= number < part_count:
            raise NoPart(row)


def write_thing(thing):
    rows = []
    for kind, sizes in thing[0]:
        rows.append(f"part {kind}")
        rows.extend([f"size {word} {number}" for word, number in sizes])
    rows.extend([f"join {word} {i} {j}" for word, i, j in thing[1]])
    rows.extend([f"step {word} {i}" for word, i in thing[2]])
    return "\n".join(rows)

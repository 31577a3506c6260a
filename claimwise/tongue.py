"""The tongue: how claims are read from a text and written to one."""

from claimwise.errors import BadRow, NoClaim, TooBig
from claimwise.words import is_word, number_in, rows_in

MOST_CLAIMS = 12
MOST_ROWS = 12
MOST_PARTS = 5
MOST_KINDS = 3
THE = ("the", "said")
A = ("a", "an")


def read_claims(text):
    claims = []
    for row, words in enumerate(rows_in(text)):
        if words == []:
            continue
        if words[0] == "claim":
            takes = takes_in(words, row, len(claims))
            if len(claims) >= MOST_CLAIMS:
                raise TooBig(0, row)
            claims.append((takes, []))
        elif claims == []:
            raise BadRow(row)
        else:
            rows = claims[-1][1]
            rows.append(row_in(words, row, len(rows)))
    return claims


def takes_in(words, row, above):
    takes = taken_numbers(words[1:])
    if takes is None:
        raise BadRow(row)
    for number in takes:
        if not 1 <= number <= above:
            raise NoClaim(row)
    return takes


def row_in(words, row, above):
    told = row_told(words)
    if told is None:
        raise BadRow(row)
    if above >= MOST_ROWS:
        raise TooBig(0, row)
    return told


# From here on, None is told of words that have not the form asked for.
def taken_numbers(words):
    if words == []:
        return []
    chosen = choices_in(words[1:])
    if words[0] != "on" or chosen is None:
        return None
    numbers = [number_in(word) for word in chosen]
    if None in numbers or numbers[0] < 0:
        return None
    for one, other in zip(numbers, numbers[1:]):
        if one >= other:
            return None
    return numbers


# What stands between the words `or`.
def choices_in(words):
    if len(words) % 2 == 0:
        return None
    if any([word != "or" for word in words[1::2]]):
        return None
    return words[0::2]


def row_told(words):
    if words[0] in A:
        # One part, as `at least 1` tells it.
        return parts_told(False, ["1"] + words[1:])
    if words[:2] == ["at", "least"]:
        return parts_told(False, words[2:])
    if words[0] == "just":
        return parts_told(True, words[1:])
    if words[0] == "then":
        return step_told(words[1:])
    if words[0] in THE:
        return told_of_ref(words[1:])
    return None


def parts_told(closed, words):
    if len(words) < 2:
        return None
    many = number_in(words[0])
    if many is None or not 1 <= many <= MOST_PARTS:
        return None
    label = words[1] if len(words) > 2 and words[2] != "or" else ""
    kinds = kinds_told(words[1:] if label == "" else words[2:])
    if kinds is None or not (label == "" or is_word(label)):
        return None
    return ("parts", many, closed, label, kinds)


def kinds_told(words):
    kinds = choices_in(words)
    if kinds is None or len(kinds) > MOST_KINDS:
        return None
    if not all_words(kinds) or len(set(kinds)) != len(kinds):
        return None
    return kinds


def step_told(words):
    if len(words) < 2 or not is_word(words[0]) or words[1] not in THE:
        return None
    ref = ref_told(words[2:])
    if ref is None:
        return None
    return ("then", words[0], ref)


def ref_told(words):
    if not 1 <= len(words) <= 2 or not all_words(words):
        return None
    label = words[0] if len(words) == 2 else ""
    return (label, words[-1])


# A kept word ends the ref, with the word of a join or a size behind it.
def told_of_ref(words):
    count = count_of_words_ahead(words)
    if count == len(words):
        return None
    behind = words[count:]
    if behind[0] == "is":
        return is_told(words[:count], behind[1:])
    if count < 2:
        return None
    ref = ref_told(words[:count - 1])
    if ref is None:
        return None
    if behind[0] in THE:
        return join_told(ref, words[count - 1], behind[1:])
    return size_told(ref, words[count - 1], behind)


def count_of_words_ahead(words):
    count = 0
    while count < len(words) and is_word(words[count]):
        count += 1
    return count


def is_told(ref_words, words):
    ref = ref_told(ref_words)
    kinds = kinds_told(words[1:])
    if ref is None or kinds is None or words[0] not in A:
        return None
    return ("is", ref, kinds)


def join_told(ref, word, words):
    other = ref_told(words)
    if other is None:
        return None
    return ("join", ref, word, other)


def size_told(ref, word, words):
    bounds = bounds_told(words)
    if bounds is None:
        return None
    return ("size", ref, word, bounds[0], bounds[1])


def bounds_told(words):
    # No word of a row is empty, so the empty text marks where a number stands.
    form = [word if number_in(word) is None else "" for word in words]
    numbers = [number_in(word) for word in words if number_in(word) is not None]
    if form == ["of", ""]:
        return (numbers[0], numbers[0])
    if form == ["at", "least", ""]:
        return (numbers[0], None)
    if form == ["at", "most", ""]:
        return (None, numbers[0])
    if form == ["from", "", "to", ""] and numbers[0] <= numbers[1]:
        return (numbers[0], numbers[1])
    return None


def all_words(words):
    return all([is_word(word) for word in words])


def write_claims(claims):
    rows = []
    for takes, told in claims:
        rows.append(first_row_of(takes))
        rows.extend([row_of(row) for row in told])
    return "\n".join(rows)


def first_row_of(takes):
    if takes == []:
        return "claim"
    return "claim on " + " or ".join([str(number) for number in takes])


def row_of(row):
    if row[0] == "parts":
        return many_of(row[1], row[2]) + " " + ref_of((row[3], " or ".join(row[4])))
    if row[0] == "join":
        return "the " + ref_of(row[1]) + " " + row[2] + " the " + ref_of(row[3])
    if row[0] == "size":
        return "the " + ref_of(row[1]) + " " + row[2] + " " + bounds_of(row[3], row[4])
    if row[0] == "is":
        return "the " + ref_of(row[1]) + " is a " + " or ".join(row[2])
    return "then " + row[1] + " the " + ref_of(row[2])


def many_of(many, closed):
    if closed:
        return f"just {many}"
    return "a" if many == 1 else f"at least {many}"


def ref_of(ref):
    return ref[1] if ref[0] == "" else ref[0] + " " + ref[1]


def bounds_of(lo, hi):
    if hi is None:
        return f"at least {lo}"
    if lo is None:
        return f"at most {hi}"
    return f"of {lo}" if lo == hi else f"from {lo} to {hi}"

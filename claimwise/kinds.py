"""Kinds: how they are read, which is under which, and the lower one of two."""

from claimwise.errors import BadRow, NoKind, TooBig, Twice
from claimwise.words import is_word, rows_in

MOST_KINDS = 12


def read_kinds(text):
    kinds = []
    for row, words in enumerate(rows_in(text)):
        if words != []:
            kinds.append(kind_in(words, row, kinds))
    return kinds


def kind_in(words, row, above):
    if not is_kind_row(words):
        raise BadRow(row)
    word = words[1]
    upper = words[3] if len(words) == 4 else ""
    told = [pair[0] for pair in above]
    if word in told:
        raise Twice(row)
    if upper != "" and upper not in told:
        raise NoKind(0, row)
    if len(above) >= MOST_KINDS:
        raise TooBig(0, row)
    return (word, upper)


def is_kind_row(words):
    if len(words) == 2:
        return words[0] == "kind" and is_word(words[1])
    if len(words) == 4:
        return words[0] == "kind" and is_word(words[1]) and words[2] == "of" and is_word(words[3])
    return False


def is_under(kinds, one, other):
    return other in uppers_of(kinds, one)


# All that a kind is under, itself first.
def uppers_of(kinds, kind):
    uppers = dict(kinds)
    above = [kind]
    # A word that is no kind has nothing above it: it is under itself alone.
    while uppers.get(above[-1], "") != "":
        above.append(uppers[above[-1]])
    return above


def lower_of(kinds, one, other):
    if is_under(kinds, one, other):
        return one
    if is_under(kinds, other, one):
        return other
    return None

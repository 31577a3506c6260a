"""The report: for each claim whether it covers a thing, and for each two how they stand to one another."""

from claimwise.covering import covers
from claimwise.ground import readings_of
from claimwise.kinds import read_kinds
from claimwise.standing import standing
from claimwise.things import read_thing
from claimwise.tongue import read_claims


def report(kinds_text, claims_text, thing_text):
    kinds = read_kinds(kinds_text)
    claims = read_claims(claims_text)
    thing = read_thing(kinds, thing_text)
    told = [readings_of(kinds, claims, number) for number in range(1, len(claims) + 1)]
    rows = [covering_row(kinds, number, readings, thing) for number, readings in enumerate(told, start=1)]
    for number, readings in enumerate(told, start=1):
        for other in range(number + 1, len(told) + 1):
            word = standing(kinds, readings, told[other - 1])[0]
            rows.append(f"{number} {other} {word}")
    return "\n".join(rows)


def covering_row(kinds, number, readings, thing):
    covering = covers(kinds, readings, thing)
    if covering is None:
        return f"claim {number} covers not"
    numbers = [covering[0]] + covering[1]
    return f"claim {number} covers " + " ".join([str(told) for told in numbers])

"""The docket: claims that are added, struck out and taken back, and that stay right when some of them go."""

from claimwise.errors import BadRow, NoClaim, TooBig
from claimwise.ground import readings_of
from claimwise.tongue import MOST_CLAIMS, MOST_ROWS, read_claims, row_in, takes_in, write_claims
from claimwise.words import rows_in


# No list of claims is ever changed: each deed makes another, and those ahead of it are kept to be taken back to.
class Docket:
    def __init__(self, kinds):
        self.kinds = list(kinds)
        self.told = []
        self.past = []

    def add(self, text):
        told = self.told + [claim_in(text, len(self.told))]
        if len(told) > MOST_CLAIMS:
            raise TooBig(len(told), 0)
        # Asked only to refuse a claim that has no readings.
        readings_of(self.kinds, told, len(told))
        self.past.append(self.told)
        self.told = told

    def strike(self, n):
        refuse_no_claim(self.told, n)
        told = claims_without(self.told, n)
        self.past.append(self.told)
        self.told = told

    def undo(self):
        if self.past == []:
            return False
        self.told = self.past.pop()
        return True

    def written(self):
        return write_claims(self.told)

    # Read again from the text, which tells the same claims: so the lists told are nobody else's.
    def claims(self):
        return read_claims(self.written())

    def readings(self, n):
        refuse_no_claim(self.told, n)
        return readings_of(self.kinds, self.told, n)


def refuse_no_claim(claims, n):
    if not 1 <= n <= len(claims):
        raise NoClaim(0)


# The one claim that a text tells, behind so many others.
def claim_in(text, above):
    claim = None
    for row, words in enumerate(rows_in(text)):
        if words == []:
            continue
        if claim is not None:
            # A second claim's first row has the form of no row within a claim.
            claim[1].append(row_in(words, row, len(claim[1])))
        elif words[0] == "claim":
            claim = (takes_in(words, row, above), [])
        else:
            raise BadRow(row)
    if claim is None:
        raise BadRow(0)
    return claim


def claims_without(claims, n):
    struck = claims[n - 1]
    kept = []
    for number, claim in enumerate(claims, start=1):
        if number != n:
            takes = claim[0]
            rows = claim[1]
            if takes == [n]:
                takes = struck[0]
                rows = struck[1] + rows
            if len(rows) > MOST_ROWS:
                raise TooBig(number, 0)
            kept.append((takes_without(takes, n), rows))
    return kept


def takes_without(takes, n):
    return [taken - 1 if taken > n else taken for taken in takes if taken != n]

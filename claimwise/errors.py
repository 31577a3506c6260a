"""The refusals: each class stands straight under ClaimError.

`row` is counted from 0; `claim` is 0 where kinds, a thing or a text of claims is read.
"""


class ClaimError(ValueError):
    pass


class BadRow(ClaimError):
    def __init__(self, row):
        self.row = row


class Twice(ClaimError):
    def __init__(self, row):
        self.row = row


class NoPart(ClaimError):
    def __init__(self, row):
        self.row = row


class NoClaim(ClaimError):
    def __init__(self, row):
        self.row = row


class NoKind(ClaimError):
    def __init__(self, claim, row):
        self.claim = claim
        self.row = row


class TooBig(ClaimError):
    def __init__(self, claim, row):
        self.claim = claim
        self.row = row


class NotUnder(ClaimError):
    def __init__(self, claim, row):
        self.claim = claim
        self.row = row


class NoRange(ClaimError):
    def __init__(self, claim, row):
        self.claim = claim
        self.row = row


class NoGround(ClaimError):
    def __init__(self, claim, row, word):
        self.claim = claim
        self.row = row
        self.word = word


class TwoGrounds(ClaimError):
    def __init__(self, claim, row, word):
        self.claim = claim
        self.row = row
        self.word = word


class TooMany(ClaimError):
    pass


class NoFit(ClaimError):
    pass


class NoChange(ClaimError):
    pass


class NotOwn(ClaimError):
    pass

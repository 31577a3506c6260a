"""What several of the tests share."""

import copy

from claimwise.errors import ClaimError

# rod over bar and tube, bar over pin; plate over disc; cap by itself.
KINDS = [("rod", ""), ("bar", "rod"), ("tube", "rod"), ("pin", "bar"), ("plate", ""), ("disc", "plate"), ("cap", "")]
KEPT = "a an the said claim on or then from to of at least most just is".split()
NO_WORDS = KEPT + ["ninelette", "Rod", "rOD", "rod1", "1", "0", "-1", "ro-d", "rod.", "rod,", "~", "!", "_rod", "ro_d"]
NO_NUMBERS = """
    -0 00 01 -01 007 +1 +0 1.0 1, 1_0 1e3 0x1 - -- --1 1- x rod the ~ True None
    1111111111222222222233333333334 -1111111111222222222233333333334
""".split()
THIRTY = "123456789012345678901234567890"


def lists_in(value):
    """All lists in a told value, however deep, each as often as it is met."""
    found = [value] if isinstance(value, list) else []
    if isinstance(value, (list, tuple)):
        for inner in value:
            found.extend(lists_in(inner))
    return found


class Checks:
    def refused(self, refusal, fields, call, *arguments):
        kept = copy.deepcopy(arguments)
        with self.assertRaises(ClaimError) as caught:
            call(*arguments)
        error = caught.exception
        self.assertIs(type(error), refusal)
        self.assertEqual(type(error).__bases__, (ClaimError,))
        self.assertEqual(vars(error), fields)
        for value in vars(error).values():
            self.assertIs(type(value), int)
        self.assertEqual(arguments, kept)

    # Equal and of the same sorts all the way down: 1 is not True, a list is no tuple.
    def same(self, told, expected):
        self.assertEqual(repr(told), repr(expected))
        self.assertEqual(told, expected)

    # No two lists of these values are one and the same.
    def unshared(self, *values):
        lists = lists_in(list(values))
        self.assertEqual(len({id(found) for found in lists}), len(lists))

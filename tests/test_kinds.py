import copy
import itertools
import unittest

from claimwise.errors import BadRow, ClaimError, NoKind, TooBig, Twice
from claimwise.kinds import is_under, lower_of, read_kinds

TWELVE = ["ka", "kb", "kc", "kd", "ke", "kf", "kg", "kh", "ki", "kj", "kk", "kl"]
REFUSALS = (BadRow, Twice, NoKind, TooBig)

# rod > bar > pin > peg, rod > tube, then another top with one below.
TREE = [
    ("rod", ""), ("bar", "rod"), ("tube", "rod"), ("pin", "bar"), ("peg", "pin"), ("plate", ""), ("disc", "plate"),
]
ABOVE = {
    "rod": ["rod"],
    "bar": ["bar", "rod"],
    "tube": ["tube", "rod"],
    "pin": ["pin", "bar", "rod"],
    "peg": ["peg", "pin", "bar", "rod"],
    "plate": ["plate"],
    "disc": ["disc", "plate"],
}


def rows_of(words):
    return ["kind " + word for word in words]


class ReadingTest(unittest.TestCase):
    def reads(self, text, expected):
        with self.subTest(text=text):
            told = read_kinds(text)
            self.assertIs(type(told), list)
            for pair in told:
                self.assertIs(type(pair), tuple)
            self.assertEqual(told, expected)

    def test_no_row(self):
        for text in ("", " ", "\n", "  \n\n   \n", " " * 200, "\n" * 199):
            self.reads(text, [])

    def test_one_kind(self):
        for word in ("x", "rod", "abcdefgh", "zzzzzzzz", "ann", "thes"):
            self.reads("kind " + word, [(word, "")])

    def test_the_first_word_may_be_a_kind(self):
        self.reads("kind kind\nkind part of kind", [("kind", ""), ("part", "kind")])

    def test_twelve_kinds(self):
        self.reads("\n".join(rows_of(TWELVE)), [(word, "") for word in TWELVE])

    def test_twelve_kinds_each_under_the_one_above(self):
        rows = ["kind ka"] + [f"kind {word} of {upper}" for upper, word in zip(TWELVE, TWELVE[1:])]
        self.reads("\n".join(rows), list(zip(TWELVE, [""] + TWELVE)))

    def test_a_kind_under_any_kind_above(self):
        for count in range(1, 12):
            for upper in TWELVE[:count]:
                text = "\n".join(rows_of(TWELVE[:count]) + [f"kind low of {upper}"])
                self.reads(text, [(word, "") for word in TWELVE[:count]] + [("low", upper)])

    def test_tops_and_lower_ones_in_the_order_told(self):
        rows = [f"kind {word} of {upper}" if upper else f"kind {word}" for word, upper in TREE]
        self.reads("\n".join(rows), TREE)

    def test_blanks_do_not_matter(self):
        kinds = [("rod", ""), ("bar", "rod")]
        self.reads("  kind rod\n kind bar of rod", kinds)
        self.reads("kind rod  \nkind bar of rod   ", kinds)
        self.reads("kind   rod\nkind  bar   of    rod", kinds)
        self.reads("   kind    rod   \n  kind  bar  of  rod  ", kinds)

    def test_rows_without_a_word_are_passed_over(self):
        self.reads("\n\nkind rod\n   \n\nkind bar of rod\n", [("rod", ""), ("bar", "rod")])

    def test_a_long_text(self):
        rows = [""] * 188 + [("kind " + word).rjust(200) for word in TWELVE]
        self.reads("\n".join(rows), [(word, "") for word in TWELVE])

    def test_two_readings_are_not_one_list(self):
        for text in ("", "kind rod\nkind bar of rod"):
            first = read_kinds(text)
            second = read_kinds(text)
            kept = list(second)
            self.assertIsNot(first, second)
            first.append(("more", ""))
            first[0] = ("other", "")
            self.assertEqual(second, kept)
            self.assertEqual(read_kinds(text), kept)


class RefusingTest(unittest.TestCase):
    def refuses(self, text, refusal, row):
        with self.subTest(text=text):
            with self.assertRaises(ClaimError) as caught:
                read_kinds(text)
            error = caught.exception
            self.assertIs(type(error), refusal)
            self.assertIsInstance(error, ValueError)
            for other in REFUSALS:
                self.assertEqual(isinstance(error, other), other is refusal)
            fields = {"row": row} if refusal in (BadRow, Twice) else {"claim": 0, "row": row}
            self.assertEqual(vars(error), fields)

    # Each row stands first, behind a row without a word, and behind kinds.
    def refuses_row(self, row, refusal):
        self.refuses(row, refusal, 0)
        self.refuses("\n" + row, refusal, 1)
        self.refuses("kind rod\n\nkind bar of rod\n  " + row + " \n\n", refusal, 3)

    def test_a_word_too_few_or_too_many(self):
        for row in (
            "kind", "kind new of", "kind of", "kind of rod", "kind new rod", "kind new x rod y",
            "kind new of rod of", "kind new of rod of bar", "kind new of rod bar", "kind kind new", "new", "new of rod",
        ):
            self.refuses_row(row, BadRow)

    def test_another_word_at_a_fixed_place(self):
        for row in (
            "kinds new", "kin new", "Kind new", "part new", "claim new", "a new", "kind, new", "kinds new of rod",
            "of new of rod", "kind new off rod", "kind new o rod", "kind new Of rod", "kind new from rod",
            "kind new rod of", "kind new the rod", "new kind of rod", "kind of new rod",
        ):
            self.refuses_row(row, BadRow)

    def test_no_word_where_a_word_must_stand(self):
        wrong = "a an the said claim on or then from to of at least most just is".split()
        wrong += ["ninelette", "New", "nEw", "new1", "1", "0", "-1", "ne-w", "new.", "~", "!", "_new", "ne_w", "NEW"]
        for word in wrong:
            self.refuses_row("kind " + word, BadRow)
            self.refuses_row(f"kind {word} of rod", BadRow)
            self.refuses_row("kind new of " + word, BadRow)

    def test_a_word_told_above(self):
        self.refuses("kind rod\nkind rod", Twice, 1)
        self.refuses("kind rod\n\nkind bar\nkind rod", Twice, 3)
        self.refuses("kind rod\nkind bar of rod\nkind bar", Twice, 2)
        self.refuses("kind rod\nkind bar of rod\nkind bar of rod", Twice, 2)
        self.refuses("kind rod\nkind rod of rod", Twice, 1)
        for word in TWELVE[:11]:
            self.refuses("\n".join(rows_of(TWELVE[:11]) + ["kind " + word]), Twice, 11)

    def test_an_upper_not_told_above(self):
        self.refuses_row("kind new of other", NoKind)
        self.refuses_row("kind new of ro", NoKind)
        self.refuses_row("kind new of rods", NoKind)
        self.refuses_row("kind new of kind", NoKind)
        self.refuses("kind new of later\nkind later", NoKind, 0)

    def test_the_word_itself_is_not_told_above(self):
        self.refuses_row("kind new of new", NoKind)

    def test_a_thirteenth_kind(self):
        rows = rows_of(TWELVE)
        self.refuses("\n".join(rows + ["kind new"]), TooBig, 12)
        self.refuses("\n".join(rows + ["kind new of ka"]), TooBig, 12)
        self.refuses("\n".join(rows + ["kind new of kl"]), TooBig, 12)
        self.refuses("\n\n".join(rows + ["kind new"]), TooBig, 24)

    def test_rows_without_a_word_are_no_thirteenth_kind(self):
        self.assertEqual(len(read_kinds("\n".join(rows_of(TWELVE) + ["", "   "]))), 12)

    def test_several_reasons_in_one_row(self):
        rows = rows_of(TWELVE)
        self.refuses("kind rod\nkind rod of other", Twice, 1)
        self.refuses("kind rod\nkind rod of The", BadRow, 1)
        self.refuses("kind rod\nkind rod of rod of", BadRow, 1)
        self.refuses("\n".join(rows + ["kind kc"]), Twice, 12)
        self.refuses("\n".join(rows + ["kind kc of ka"]), Twice, 12)
        self.refuses("\n".join(rows + ["kind kc of other"]), Twice, 12)
        self.refuses("\n".join(rows + ["kind new of other"]), NoKind, 12)
        self.refuses("\n".join(rows + ["kind new of new"]), NoKind, 12)
        for row in ("kind", "kind ka kb", "kind the", "kind ka of the", "kind of other", "kind New of other"):
            self.refuses("\n".join(rows + [row]), BadRow, 12)

    def test_the_first_row_at_fault_is_refused(self):
        faults = [("kind", BadRow), ("kind rod", Twice), ("kind new of other", NoKind)]
        for (one, refusal), (other, _) in itertools.product(faults, faults):
            self.refuses("kind rod\n" + one + "\n" + other, refusal, 1)
            self.refuses("kind rod\n" + one + "\nkind bar of rod\n\n" + other, refusal, 1)
        rows = rows_of(TWELVE)
        for row, refusal in (("kind", BadRow), ("kind ka", Twice), ("kind new of other", NoKind)):
            self.refuses("\n".join(rows + ["kind new", row]), TooBig, 12)
            self.refuses("\n".join(rows + [row, "kind new"]), refusal, 12)
            self.refuses("\n".join(rows[:5] + [row] + rows[5:] + ["kind new"]), refusal, 5)

    def test_a_refused_text_leaves_nothing_behind(self):
        self.refuses("kind rod\nkind", BadRow, 1)
        self.assertEqual(read_kinds("kind rod"), [("rod", "")])


class UnderTest(unittest.TestCase):
    def test_under(self):
        for one in ABOVE:
            for other in ABOVE:
                with self.subTest(one=one, other=other):
                    self.assertIs(is_under(TREE, one, other), other in ABOVE[one])

    def test_a_kind_itself_and_its_upper_and_the_upper_of_that(self):
        kinds = read_kinds("kind rod\nkind bar of rod\nkind pin of bar\nkind tube of rod")
        self.assertIs(is_under(kinds, "pin", "pin"), True)
        self.assertIs(is_under(kinds, "pin", "bar"), True)
        self.assertIs(is_under(kinds, "pin", "rod"), True)
        self.assertIs(is_under(kinds, "rod", "pin"), False)
        self.assertIs(is_under(kinds, "tube", "bar"), False)
        self.assertIs(is_under(kinds, "bar", "tube"), False)

    def test_under_all_of_twelve(self):
        kinds = list(zip(TWELVE, [""] + TWELVE))
        for low, one in enumerate(TWELVE):
            for high, other in enumerate(TWELVE):
                self.assertIs(is_under(kinds, one, other), high <= low)

    def test_lower(self):
        for one in ABOVE:
            for other in ABOVE:
                with self.subTest(one=one, other=other):
                    expected = None
                    if other in ABOVE[one]:
                        expected = one
                    elif one in ABOVE[other]:
                        expected = other
                    self.assertEqual(lower_of(TREE, one, other), expected)

    def test_lower_in_both_orders(self):
        self.assertEqual(lower_of(TREE, "peg", "rod"), "peg")
        self.assertEqual(lower_of(TREE, "rod", "peg"), "peg")
        self.assertEqual(lower_of(TREE, "pin", "pin"), "pin")
        self.assertIsNone(lower_of(TREE, "bar", "tube"))
        self.assertIsNone(lower_of(TREE, "tube", "peg"))
        self.assertIsNone(lower_of(TREE, "disc", "rod"))
        self.assertIsNone(lower_of(TREE, "plate", "rod"))

    def test_kinds_handed_in_stay_as_they_are(self):
        kinds = list(TREE)
        kept = copy.deepcopy(kinds)
        for one in ABOVE:
            for other in ABOVE:
                is_under(kinds, one, other)
                lower_of(kinds, one, other)
        self.assertEqual(kinds, kept)

    # A list of kinds is the asker's own: what is told goes by what it holds when asked.
    def test_nothing_is_remembered_of_kinds(self):
        kinds = [("rod", ""), ("bar", "rod")]
        self.assertIs(is_under(kinds, "bar", "rod"), True)
        kinds[1] = ("bar", "")
        self.assertIs(is_under(kinds, "bar", "rod"), False)
        self.assertIsNone(lower_of(kinds, "bar", "rod"))


if __name__ == "__main__":
    unittest.main()

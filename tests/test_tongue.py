import copy
import itertools
import random
import re
import unittest

from claimwise.errors import BadRow, ClaimError, NoClaim, TooBig
from claimwise.tongue import read_claims, write_claims
from helper import KEPT, NO_NUMBERS, NO_WORDS, THIRTY, Checks

BIG = int(THIRTY)

# Each row with the tuple that it tells and, where it is another one, the row that is written of it.
ROWS = [
    ("a rod", ("parts", 1, False, "", ["rod"]), None),
    ("an axle", ("parts", 1, False, "", ["axle"]), "a axle"),
    ("a long rod", ("parts", 1, False, "long", ["rod"]), None),
    ("an rod rod", ("parts", 1, False, "rod", ["rod"]), "a rod rod"),
    ("a rod or bar", ("parts", 1, False, "", ["rod", "bar"]), None),
    ("a rod or bar or axle", ("parts", 1, False, "", ["rod", "bar", "axle"]), None),
    ("a long tube or bar or rod", ("parts", 1, False, "long", ["tube", "bar", "rod"]), None),
    ("at least 1 rod", ("parts", 1, False, "", ["rod"]), "a rod"),
    ("at least 1 long rod or bar", ("parts", 1, False, "long", ["rod", "bar"]), "a long rod or bar"),
    ("at least 2 rods", ("parts", 2, False, "", ["rods"]), None),
    ("at least 5 long rod or bar or tube", ("parts", 5, False, "long", ["rod", "bar", "tube"]), None),
    ("just 1 rod", ("parts", 1, True, "", ["rod"]), None),
    ("just 3 long rod", ("parts", 3, True, "long", ["rod"]), None),
    ("just 5 rod or bar", ("parts", 5, True, "", ["rod", "bar"]), None),
    ("the rod touches the bar", ("join", ("", "rod"), "touches", ("", "bar")), None),
    ("said long rod touches the bar", ("join", ("long", "rod"), "touches", ("", "bar")), "the long rod touches the bar"),
    ("the rod touches said wide bar", ("join", ("", "rod"), "touches", ("wide", "bar")), "the rod touches the wide bar"),
    ("said x y z said v w", ("join", ("x", "y"), "z", ("v", "w")), "the x y z the v w"),
    ("the rod rod the rod", ("join", ("", "rod"), "rod", ("", "rod")), None),
    ("the rod long from 2 to 7", ("size", ("", "rod"), "long", 2, 7), None),
    ("the big rod long from -7 to -2", ("size", ("big", "rod"), "long", -7, -2), None),
    ("said rod long from 0 to 0", ("size", ("", "rod"), "long", 0, 0), "the rod long of 0"),
    (f"the rod long from -{THIRTY} to {THIRTY}", ("size", ("", "rod"), "long", -BIG, BIG), None),
    ("the rod long at least 3", ("size", ("", "rod"), "long", 3, None), None),
    ("the rod long at least 0", ("size", ("", "rod"), "long", 0, None), None),
    ("said big rod long at least -3", ("size", ("big", "rod"), "long", -3, None), "the big rod long at least -3"),
    ("the rod long at most 3", ("size", ("", "rod"), "long", None, 3), None),
    ("the rod long at most 0", ("size", ("", "rod"), "long", None, 0), None),
    (f"the big rod long at most {THIRTY}", ("size", ("big", "rod"), "long", None, BIG), None),
    ("the rod long of -1", ("size", ("", "rod"), "long", -1, -1), None),
    (f"the big rod long of {THIRTY}", ("size", ("big", "rod"), "long", BIG, BIG), None),
    ("the rod is a bar", ("is", ("", "rod"), ["bar"]), None),
    ("said long rod is an axle", ("is", ("long", "rod"), ["axle"]), "the long rod is a axle"),
    ("the rod is a bar or tube", ("is", ("", "rod"), ["bar", "tube"]), None),
    ("the rod is an tube or bar or pin", ("is", ("", "rod"), ["tube", "bar", "pin"]), "the rod is a tube or bar or pin"),
    ("the rod is a rod", ("is", ("", "rod"), ["rod"]), None),
    ("then weld the rod", ("then", "weld", ("", "rod")), None),
    ("then weld said long rod", ("then", "weld", ("long", "rod")), "then weld the long rod"),
    ("then rod the rod", ("then", "rod", ("", "rod")), None),
]
ELEVEN = ["claim"] * 11
TWELVE_ROWS = ["claim"] + ["a rod"] * 12


def one_claim(*told):
    return [([], list(told))]


class ReadingTest(Checks, unittest.TestCase):
    def reads(self, rows, expected):
        text = rows if isinstance(rows, str) else "\n".join(rows)
        with self.subTest(text=text):
            told = read_claims(text)
            self.same(told, expected)
            self.unshared(told)

    def test_no_claim(self):
        for text in ("", "   ", "\n\n", " \n  \n"):
            self.reads(text, [])

    def test_a_claim_without_rows(self):
        self.reads("claim", [([], [])])
        self.reads("  claim  \n\n claim", [([], []), ([], [])])

    def test_each_form(self):
        for row, told, _ in ROWS:
            self.reads("claim\n" + row, one_claim(told))
            self.reads("\nclaim\n\n   " + row.replace(" ", "   ") + "  \n", one_claim(told))

    def test_forms_behind_one_another(self):
        for (one, told, _), (other, behind, _) in itertools.product(ROWS, ROWS):
            self.assertEqual(read_claims(f"claim\n{one}\n{other}"), one_claim(told, behind))

    def test_the_and_said_are_the_same(self):
        for row, told, _ in ROWS:
            places = [place for place, word in enumerate(row.split()) if word in ("the", "said")]
            for choice in itertools.product(("the", "said"), repeat=len(places)):
                words = row.split()
                for place, word in zip(places, choice):
                    words[place] = word
                self.reads("claim\n" + " ".join(words), one_claim(told))

    def test_an_is_a(self):
        for row, told, _ in ROWS:
            for word in ("a", "an"):
                words = [word if found in ("a", "an") else found for found in row.split()]
                self.reads("claim\n" + " ".join(words), one_claim(told))

    def test_one_to_five_parts(self):
        for many in range(1, 6):
            self.reads(f"claim\nat least {many} x", one_claim(("parts", many, False, "", ["x"])))
            self.reads(f"claim\njust {many} x", one_claim(("parts", many, True, "", ["x"])))

    def test_takes(self):
        rows = ["claim", "claim on 1", "claim", "claim on 1 or 3", "claim on 1 or 2 or 3 or 4", "claim on 4", "claim"]
        self.reads(rows, [([], []), ([1], []), ([], []), ([1, 3], []), ([1, 2, 3, 4], []), ([4], []), ([], [])])

    def test_twelve_claims_that_take_all_above(self):
        rows = ["claim"]
        expected = [([], [])]
        for number in range(2, 13):
            rows.append("claim on " + " or ".join(str(taken) for taken in range(1, number)))
            expected.append((list(range(1, number)), []))
        self.reads(rows, expected)

    def test_twelve_claims_of_twelve_rows(self):
        rows = []
        expected = []
        for number in range(12):
            chosen = [ROWS[(number * 5 + place) % len(ROWS)] for place in range(12)]
            rows += ["", "claim"] + [row for row, _, _ in chosen]
            expected.append(([], copy.deepcopy([told for _, told, _ in chosen])))
        self.reads(rows, expected)

    def test_rows_belong_to_the_claim_above(self):
        rows = ["claim", "a rod", "", "claim on 1", "claim", "the rod is a bar", "then weld the rod"]
        told = [("is", ("", "rod"), ["bar"]), ("then", "weld", ("", "rod"))]
        self.reads(rows, [([], [("parts", 1, False, "", ["rod"])]), ([1], []), ([], told)])

    def test_two_readings_share_no_list(self):
        text = "claim\na rod\na rod\nthe rod is a bar\nclaim on 1\na rod\nclaim on 1\n"
        first = read_claims(text)
        second = read_claims(text)
        kept = copy.deepcopy(second)
        self.unshared(first, second)
        first[0][1][0][4].append("more")
        first[0][1].pop()
        first[1][0].append(7)
        first.pop()
        self.same(second, kept)
        self.same(read_claims(text), kept)


class WritingTest(Checks, unittest.TestCase):
    def writes(self, claims, rows):
        kept = copy.deepcopy(claims)
        with self.subTest(rows=rows):
            self.assertEqual(write_claims(claims), "\n".join(rows))
            self.same(claims, kept)

    def test_no_claim(self):
        self.writes([], [])

    def test_each_form(self):
        for row, told, written in ROWS:
            self.writes(one_claim(told), ["claim", written or row])

    def test_several_claims(self):
        claims = [([], [told for _, told, _ in ROWS[:12]]), ([1], []), ([1, 2], [ROWS[20][1]]), ([], []), ([4], [])]
        rows = ["claim"] + [written or row for row, _, written in ROWS[:12]]
        rows += ["claim on 1", "claim on 1 or 2", ROWS[20][2] or ROWS[20][0], "claim", "claim on 4"]
        self.writes(claims, rows)

    def test_one_claim_alone_whatever_it_takes(self):
        part = ("parts", 2, True, "", ["rod"])
        for takes, row in (([], "claim"), ([1], "claim on 1"), ([7, 9, 11], "claim on 7 or 9 or 11"), ([0], "claim on 0")):
            self.writes([(takes, [])], [row])
            self.writes([(takes, [part])], [row, "just 2 rod"])

    def test_written_and_read_again_it_is_the_same(self):
        for seed in range(60):
            source = random.Random(seed)
            claims = []
            for number in range(1, source.randint(1, 12) + 1):
                takes = sorted(source.sample(range(1, number), source.randint(0, number - 1)))
                claims.append((takes, [source.choice(ROWS)[1] for _ in range(source.randint(0, 12))]))
            with self.subTest(seed=seed):
                text = write_claims(claims)
                told = read_claims(text)
                self.same(told, claims)
                self.unshared(told)
                self.assertEqual(write_claims(told), text)

    def test_read_and_written_it_is_put_in_form(self):
        text = "\n claim \n\n an   rod\nsaid rod long from 3 to 3\n\nclaim  on 1\nat least 1 wide bar\nsaid bar is an pin\n"
        rows = ["claim", "a rod", "the rod long of 3", "claim on 1", "a wide bar", "the bar is a pin"]
        self.assertEqual(write_claims(read_claims(text)), "\n".join(rows))


KEPT_HERE = "|".join(KEPT)
WORD = rf"(?!(?:{KEPT_HERE}) )[a-z]{{1,8}} "
NUMBER = r"(?:0|-?[1-9][0-9]{0,29}) "
REF = f"(?:{WORD})?{WORD}"
CHOICE = f"{WORD}(?:or {WORD}){{0,2}}"
FORMS = [
    f"(?:an? |(?:at least|just) [1-5] )(?:{WORD})?{CHOICE}",
    f"(?:the|said) {REF}{WORD}(?:the|said) {REF}",
    f"(?:the|said) {REF}{WORD}(?:from {NUMBER}to {NUMBER}|at least {NUMBER}|at most {NUMBER}|of {NUMBER})",
    f"(?:the|said) {REF}is an? {CHOICE}",
    f"then {WORD}(?:the|said) {REF}",
]


# The forms told another way, as patterns, to hold the reader against.
def is_form(words):
    row = "".join(word + " " for word in words)
    if not any(re.fullmatch(form, row) for form in FORMS):
        return False
    if "from" in words:
        return int(words[-3]) <= int(words[-1])
    behind = words[words.index("is"):] if "is" in words else words
    choices = [word for place, word in enumerate(behind) if "or" in behind[max(0, place - 1):place + 2] and word != "or"]
    return len(set(choices)) == len(choices)


def changed_rows(words):
    put = ["x", "rod", "the", "a", "or", "is", "at", "least", "most", "just", "of", "from", "to", "then", "claim", "on"]
    put += ["0", "1", "5", "6", "-1", "01", "Rod", "ninelette"]
    for place in range(len(words)):
        yield words[:place] + words[place + 1:]
        for word in put:
            yield words[:place] + [word] + words[place + 1:]
        for other in range(place):
            swapped = list(words)
            swapped[place], swapped[other] = swapped[other], swapped[place]
            yield swapped
    for place in range(len(words) + 1):
        for word in put:
            yield words[:place] + [word] + words[place:]


class RefusingTest(Checks, unittest.TestCase):
    def refuses(self, rows, refusal, row):
        text = rows if isinstance(rows, str) else "\n".join(rows)
        fields = {"claim": 0, "row": row} if refusal is TooBig else {"row": row}
        with self.subTest(text=text):
            self.refused(refusal, fields, read_claims, text)

    def refuses_row(self, row):
        self.refuses(["claim", row], BadRow, 1)
        self.refuses(["claim", "", "a rod", "claim on 1", "  " + row + " ", "a rod"], BadRow, 4)

    def refuses_rows(self, rows):
        for row in rows:
            self.refuses_row(row)

    def test_rows_with_a_word_left_out_put_in_or_exchanged(self):
        seen = set()
        for row, _, _ in ROWS:
            for words in changed_rows(row.split()):
                text = " ".join(words)
                if text in seen or not words or words[0] == "claim":
                    continue
                seen.add(text)
                try:
                    told = read_claims("claim\n" + text)
                except ClaimError as error:
                    told = None
                    self.assertEqual((type(error), vars(error)), (BadRow, {"row": 1}), text)
                self.assertEqual(told is not None, is_form(words), text)
                if told is not None:
                    self.assertEqual(read_claims(write_claims(told)), told)
        self.assertGreater(len(seen), 10000)

    def test_another_row(self):
        self.refuses_rows([
            "rod", "rod touches the bar", "A rod", "The rod is a bar", "some rod", "part rod", "kind rod", "~", "5 rod",
            "on 1", "or rod", "is a rod", "of 3", "to 3", "from 2 to 3", "least 2 rod", "most 2 rod", "at most 2 rod",
            "claims", "Claim", "claimon 1", "at", "at least", "at rod", "at 2 rod",
        ])

    def test_parts(self):
        self.refuses_rows([
            "a", "an", "just", "just 2", "at least 2", "just rod", "at least rod", "a an rod", "a a", "a or", "a 1 rod",
            "a rod or", "a or rod", "a rod bar tube", "a rod or bar tube", "a rod bar or", "a rod or or bar", "a rod and bar",
            "a rod or bar or tube or pin", "a long rod or bar or tube or pin", "a rod or long bar", "a the rod", "a rod the",
            "a rod of bar", "at least just 2 rod", "just at least 2 rod", "just 2 a rod", "a just 2 rod", "a at least 2 rod",
            "at least a rod", "just a rod", "at least 2 rod or", "just 2 rod or bar or tube or pin", "a rod, bar",
        ])

    def test_parts_out_of_their_range(self):
        for number in ["0", "6", "7", "10", "-1", "-5", "55", THIRTY, "-" + THIRTY] + NO_NUMBERS:
            self.refuses_rows([f"at least {number} rod", f"just {number} rod", f"just {number} long rod or bar"])

    def test_a_kind_twice(self):
        for ahead in ("a ", "a long ", "a rod ", "at least 2 ", "just 3 long ", "the x is a ", "said long x is an "):
            for kinds in ("rod or rod", "rod or bar or rod", "rod or rod or bar", "bar or rod or rod", "x or x or x"):
                self.refuses_row(ahead + kinds)

    def test_joins(self):
        self.refuses_rows([
            "the", "said", "the rod", "the rod touches", "the rod touches the", "the touches the bar", "the the bar",
            "the rod the bar", "the rod touches bar", "the rod touches a bar", "the rod touches the a bar",
            "the rod touches the long wide bar", "the big long rod touches the bar", "the rod touches the bar and cap",
            "the rod touches the bar or tube", "the rod or bar touches the tube", "the rod touches the bar the tube",
            "the said rod touches the bar", "the rod touches the said bar", "a rod touches the bar", "rod touches the bar",
            "the rod touches the bar touches the tube", "the big long rod touches the wide bar",
        ])

    def test_sizes(self):
        self.refuses_rows([
            "the rod long", "the rod long 3", "the rod long of", "the rod of 3", "the of 3", "the rod long of 3 4",
            "the rod long at 3", "the rod long least 3", "the rod long most 3", "the rod long at least", "the rod long at most",
            "the rod at least 3", "the rod at most 3", "the rod long at least 3 4", "the rod long at least most 3",
            "the rod long from 3", "the rod long from 3 to", "the rod long to 3", "the rod long from to 3", "the long from 2 to 3",
            "the rod long from 2 3", "the rod long from 2 to 3 4", "the rod long from 2 to 3 to 4", "the rod long from 2 of 3",
            "the rod long to 2 from 3", "the rod from 2 to 3", "the big long rod wide of 3", "the big long rod wide at least 3",
            "the rod long just 3", "the rod long is 3", "the rod long from at least 2 to 3", "a rod long of 3", "rod long of 3",
            "the rod long of the bar", "the rod long at the 3", "the rod long of at least 3",
        ])

    def test_bounds_out_of_their_range(self):
        for lo, hi in ((1, 0), (0, -1), (10, 9), (9, 10 - 2), (-1, -2), (BIG, BIG - 1), (BIG, -BIG), (-BIG, 1 - BIG - 2)):
            self.refuses_row(f"the rod long from {lo} to {hi}")

    def test_numbers_written_otherwise(self):
        for number in NO_NUMBERS:
            self.refuses_rows([
                f"the rod long of {number}", f"the rod long at least {number}", f"the rod long at most {number}",
                f"the rod long from {number} to 5", f"the rod long from -5 to {number}",
            ])

    def test_kinds_made_narrower(self):
        self.refuses_rows([
            "the rod is", "the rod is a", "the rod is an", "the is a bar", "the rod is bar", "the rod is the bar", "rod is a bar",
            "the rod is a bar or", "the rod is a or bar", "the rod is a long bar", "the rod is a bar tube", "a rod is a bar",
            "the rod is a bar or tube or pin or axle", "the rod is a bar or long tube", "the big long rod is a bar",
            "the rod is is a bar", "the rod is a a bar", "the rod is a bar or or pin", "the rod is at least 1 bar",
            "the rod is just 1 bar", "the rod is a bar or a pin", "the rod or tube is a bar", "the rod is a the",
        ])

    def test_steps(self):
        self.refuses_rows([
            "then", "then weld", "then the rod", "then weld rod", "then weld the", "then weld a rod", "then weld bend the rod",
            "then weld the long wide rod", "then weld the rod or bar", "then weld the rod the bar", "then then weld the rod",
            "weld the rod", "then weld the said rod", "then weld the rod 1", "then weld of rod",
        ])

    def test_no_word_where_a_word_must_stand(self):
        for word in NO_WORDS:
            self.refuses_rows([
                f"a {word}", f"a {word} rod", f"a long {word}", f"a rod or {word}", f"a rod or {word} or bar",
                f"just 2 {word} rod", f"at least 2 {word}", f"the {word} touches the bar", f"the {word} rod touches the bar",
                f"the rod {word} the bar", f"the rod touches the {word}", f"the rod touches the {word} bar",
                f"the big {word} touches the bar", f"the rod touches the big {word}", f"the {word} long of 3",
                f"the {word} rod long of 3", f"the rod {word} at most 3", f"the {word} is a bar", f"the {word} rod is a bar",
                f"the rod is a {word}", f"the rod is a bar or {word}", f"then {word} the rod", f"then weld the {word}",
                f"then weld the {word} rod", f"then weld the big {word}",
            ])

    def test_a_first_row_of_another_form(self):
        for row in (
            "claim 1", "claim on", "claim on on", "claim on 1 or", "claim on or 1", "claim on 1 2", "claim on 1 or or 2",
            "claim or 1", "claim on 1 on 2", "claim on 1, 2", "claim on x", "claim on 1 or x", "claim claim", "claim rod",
            "claim on claim 1", "claim the 1", "claim on 1 to 2", "claim on 1 or 2 or", "claim of 1", "claim a rod",
        ):
            self.refuses(["claim", "claim", row], BadRow, 2)
            self.refuses([row, "claim"], BadRow, 0)

    def test_takes_out_of_their_range_or_written_otherwise(self):
        for number in ["-1", "-2", "-" + THIRTY] + NO_NUMBERS:
            self.refuses(["claim", "claim", f"claim on {number}"], BadRow, 2)
            self.refuses(["claim", "claim", f"claim on {number} or 1"], BadRow, 2)
            self.refuses(["claim", "claim", f"claim on 1 or {number}"], BadRow, 2)

    def test_takes_not_rising(self):
        rows = ["claim", "", "claim", "claim"]
        for takes in ("1 or 1", "2 or 1", "1 or 3 or 2", "1 or 2 or 2", "2 or 1 or 3", "3 or 3", "1 or 2 or 1", "2 or 2 or 3"):
            self.refuses(rows + [f"claim on {takes}"], BadRow, 4)

    def test_a_row_above_the_first_claim(self):
        for row, _, _ in ROWS:
            self.refuses([row], BadRow, 0)
            self.refuses(["", " ", row, "claim", row], BadRow, 2)

    def test_a_number_that_is_no_claim_above(self):
        for number in ("0", "3", "4", "5", "12", "13", THIRTY):
            self.refuses(["claim", "", "claim", f"claim on {number}", "claim", "claim"], NoClaim, 3)
        for number in ("0", "1", "2"):
            self.refuses(f"claim on {number}", NoClaim, 0)
        for takes in ("0 or 1", "0 or 1 or 2", "1 or 3", "1 or 2 or 3", "2 or 9", "0 or 9", "8 or 9", "1 or " + THIRTY):
            self.refuses(["claim", "claim", "a rod", f"claim on {takes}", "claim"], NoClaim, 3)

    def test_a_thirteenth_claim(self):
        for row in ("claim", "claim on 1", "claim on 12", "claim on 1 or 5 or 12"):
            self.refuses(ELEVEN + ["claim", row], TooBig, 12)
            self.refuses(ELEVEN + ["claim", "a rod", "", row, "claim"], TooBig, 14)

    def test_a_thirteenth_row(self):
        for row, _, _ in ROWS:
            self.refuses(TWELVE_ROWS + [row], TooBig, 13)
            self.refuses(["claim", "a rod"] + TWELVE_ROWS + ["", row, "claim"], TooBig, 16)

    def test_rows_without_a_word_are_none_too_many(self):
        self.assertEqual(len(read_claims("\n".join(ELEVEN + ["claim", "", "  "]))), 12)
        self.assertEqual(len(read_claims("\n".join(TWELVE_ROWS + ["", "  "]))[0][1]), 12)
        self.assertEqual(len(read_claims("\n".join(TWELVE_ROWS * 12))), 12)

    def test_two_reasons_in_one_row(self):
        twelve = ELEVEN + ["claim"]
        for takes in ("0 or 0", "9 or 8", "9 or 9", "-1 or 9", "0 or x", "9 or 1", "3 or 2", "0 or -1", "01 or 9"):
            self.refuses(["claim", "claim", f"claim on {takes}"], BadRow, 2)
            self.refuses(twelve + [f"claim on {takes}"], BadRow, 12)
        for takes in ("0", "13", "14", THIRTY, "0 or 1", "1 or 13", "12 or 13"):
            self.refuses(twelve + [f"claim on {takes}"], NoClaim, 12)
        for row in ("claim 1", "claim on", "claim on 2 or 1", "claim on -1"):
            self.refuses(twelve + [row], BadRow, 12)
        for row in ("rod", "a rod or rod", "at least 6 rod", "the rod long from 2 to 1", "then weld rod", "a the"):
            self.refuses(TWELVE_ROWS + [row], BadRow, 13)
            self.refuses([row, "claim"], BadRow, 0)

    def test_the_first_row_at_fault_is_refused(self):
        faults = [("rod", BadRow), ("claim on 0", NoClaim), ("claim on 2 or 1", BadRow), ("just 6 rod", BadRow)]
        for (one, refusal), (other, _) in itertools.product(faults, faults):
            self.refuses(["claim", one, other], refusal, 1)
            self.refuses(["claim", "a rod", one, "claim", "a rod", other], refusal, 2)
        for row, refusal in faults:
            self.refuses(TWELVE_ROWS + ["a rod", row], TooBig, 13)
            self.refuses(TWELVE_ROWS + [row, "a rod"], refusal, 13)
            self.refuses(ELEVEN + ["claim", "claim", row], TooBig, 12)
            self.refuses(ELEVEN + ["claim", row, "claim"], refusal, 12)
            self.refuses(["a rod", row], BadRow, 0)

    def test_a_refused_text_leaves_nothing_behind(self):
        self.refuses("claim\na rod\nrod", BadRow, 2)
        self.same(read_claims("claim\na rod"), one_claim(("parts", 1, False, "", ["rod"])))


if __name__ == "__main__":
    unittest.main()

import copy
import itertools
import random
import unittest

from claimwise.errors import BadRow, NoKind, NoPart, TooBig, Twice
from claimwise.things import read_thing, write_thing
from helper import KINDS, NO_NUMBERS, NO_WORDS, THIRTY, Checks

JOINS = [("clip", 0, 1), ("clip", 1, 0), ("clip", 1, 2), ("clip", 7, 0), ("clip", 7, 6), ("glue", 0, 1), ("glue", 2, 1)]
JOINS += [("nail", 0, 7), ("nail", 1, 7), ("nail", 2, 7), ("nail", 3, 7), ("nail", 4, 7), ("nail", 5, 7), ("nail", 6, 7)]
JOINS += [("nail", 7, 0), ("x", 5, 4)]
EIGHT = ["part rod", "part bar", "part tube", "part pin", "part plate", "part disc", "part cap", "part rod"]

# All that a row may stand behind: two parts, the last one with a size, a join and a step. Rows 0 to 4.
AHEAD = ["part rod", "part bar", "size long 3", "join clip 0 1", "step weld 0"]


def join_rows(joins):
    return [f"join {word} {i} {j}" for word, i, j in joins]


class ReadingTest(Checks, unittest.TestCase):
    def reads(self, rows, parts, joins, steps):
        text = rows if isinstance(rows, str) else "\n".join(rows)
        with self.subTest(text=text):
            kinds = copy.deepcopy(KINDS)
            told = read_thing(kinds, text)
            self.same(told, (parts, joins, steps))
            self.unshared(told)
            self.assertEqual(kinds, KINDS)

    def test_no_part(self):
        for text in ("", "  ", "\n", "\n \n\n"):
            self.reads(text, [], [], [])

    def test_one_part(self):
        for kind, upper in KINDS:
            self.reads("part " + kind, [(kind, [])], [], [])

    def test_eight_parts(self):
        kinds = ["rod", "bar", "tube", "pin", "plate", "disc", "cap", "rod"]
        self.reads(EIGHT, [(kind, []) for kind in kinds], [], [])

    def test_sizes_belong_to_the_last_part_above(self):
        rows = ["part rod", "size long 1", "part bar", "part rod", "size long 2", "size wide 1", "join clip 0 1"]
        rows += ["size deep 5", "step weld 0", "size b 5"]
        third = ("rod", [("b", 5), ("deep", 5), ("long", 2), ("wide", 1)])
        self.reads(rows, [("rod", [("long", 1)]), ("bar", []), third], [("clip", 0, 1)], [("weld", 0)])

    def test_four_sizes_in_any_order(self):
        sizes = [("b", 9), ("ba", -4), ("long", 0), ("wide", 7)]
        for order in itertools.permutations(sizes):
            rows = ["part rod"] + [f"size {word} {number}" for word, number in order]
            self.reads(rows, [("rod", sizes)], [], [])

    def test_four_sizes_of_each_of_eight_parts(self):
        rows = []
        for row in EIGHT:
            rows += [row, "size d 4", "size c 3", "size b 2", "size e 1"]
        sizes = [("b", 2), ("c", 3), ("d", 4), ("e", 1)]
        self.reads(rows, [(row.split()[1], list(sizes)) for row in EIGHT], [], [])

    def test_sixteen_joins_in_any_order(self):
        self.assertEqual(len(JOINS), 16)
        parts = [(row.split()[1], []) for row in EIGHT]
        orders = [JOINS, JOINS[::-1]] + [random.Random(seed).sample(JOINS, 16) for seed in range(20)]
        for order in orders:
            self.reads(EIGHT + join_rows(order), parts, JOINS, [])

    def test_joins_rise_by_number_not_by_figures(self):
        kinds = [(row.split()[1], []) for row in EIGHT[:3]]
        self.reads(EIGHT[:3] + ["join x 2 0", "join b 2 1", "join x 0 2"], kinds, [("b", 2, 1), ("x", 0, 2), ("x", 2, 0)], [])

    def test_eight_steps_in_the_order_told(self):
        steps = [("weld", 1), ("weld", 0), ("weld", 1), ("bend", 0), ("weld", 1), ("weld", 1), ("b", 0), ("bend", 0)]
        rows = ["part rod", "part bar"] + [f"step {word} {i}" for word, i in steps]
        self.reads(rows, [("rod", []), ("bar", [])], [], steps)

    def test_joins_and_steps_between_the_parts(self):
        rows = ["part rod", "step weld 0", "part bar", "join glue 1 0", "size long 2", "step bend 1", "join clip 0 1"]
        rows += ["part cap", "step weld 0", "join clip 0 2"]
        parts = [("rod", []), ("bar", [("long", 2)]), ("cap", [])]
        joins = [("clip", 0, 1), ("clip", 0, 2), ("glue", 1, 0)]
        self.reads(rows, parts, joins, [("weld", 0), ("bend", 1), ("weld", 0)])

    def test_blanks_and_rows_without_a_word(self):
        text = "\n  \n   part   rod \n\nsize  long    3   \n part bar\n  \njoin  clip 0   1\n   step   weld 1\n\n"
        self.reads(text, [("rod", [("long", 3)]), ("bar", [])], [("clip", 0, 1)], [("weld", 1)])
        self.reads([""] * 198 + ["part rod".rjust(200), "size long 3".ljust(200)], [("rod", [("long", 3)])], [], [])

    def test_numbers_of_thirty_figures_and_below_nought(self):
        rows = ["part rod", "size long " + THIRTY, "size wide -" + THIRTY, "size deep 0", "size b -1"]
        sizes = [("b", -1), ("deep", 0), ("long", int(THIRTY)), ("wide", -int(THIRTY))]
        self.reads(rows, [("rod", sizes)], [], [])

    def test_names_of_rows_may_be_words(self):
        kinds = [("part", ""), ("size", "part")]
        rows = ["part part", "size size 1", "size join 2", "part size", "join join 1 0", "join part 0 1", "step step 1"]
        expected = ([("part", [("join", 2), ("size", 1)]), ("size", [])], [("join", 1, 0), ("part", 0, 1)], [("step", 1)])
        self.same(read_thing(kinds, "\n".join(rows)), expected)

    def test_two_readings_share_no_list(self):
        text = "\n".join(EIGHT + ["size b 1"] + join_rows(JOINS) + ["step weld 0"])
        first = read_thing(KINDS, text)
        second = read_thing(KINDS, text)
        kept = copy.deepcopy(second)
        self.unshared(first, second)
        first[0][0][1].append(("more", 1))
        first[0].pop()
        first[1].clear()
        first[2].append(("more", 1))
        self.same(second, kept)
        self.same(read_thing(KINDS, text), kept)


class WritingTest(Checks, unittest.TestCase):
    def writes(self, thing, text):
        kept = copy.deepcopy(thing)
        self.assertEqual(write_thing(thing), text)
        self.same(thing, kept)

    def test_no_part(self):
        self.writes(([], [], []), "")

    def test_each_row_alone(self):
        self.writes(([("rod", [])], [], []), "part rod")
        self.writes(([("rod", [("long", -3)])], [], []), "part rod\nsize long -3")
        self.writes(([("rod", []), ("bar", [])], [("clip", 1, 0)], []), "part rod\npart bar\njoin clip 1 0")
        self.writes(([("rod", [])], [], [("weld", 0)]), "part rod\nstep weld 0")

    def test_the_order_of_rows(self):
        parts = [("rod", [("b", 0), ("long", int(THIRTY))]), ("bar", []), ("cap", [("wide", -7)])]
        joins = [("clip", 0, 2), ("clip", 1, 0), ("glue", 0, 1)]
        steps = [("weld", 2), ("bend", 0), ("weld", 2)]
        rows = ["part rod", "size b 0", "size long " + THIRTY, "part bar", "part cap", "size wide -7"]
        rows += ["join clip 0 2", "join clip 1 0", "join glue 0 1", "step weld 2", "step bend 0", "step weld 2"]
        self.writes((parts, joins, steps), "\n".join(rows))

    def test_a_greater_thing(self):
        parts = [("rod", [(word, 1) for word in "bcdefg"]) for _ in range(12)]
        joins = [("clip", 10, j) for j in range(10)] + [("clip", 11, j) for j in range(11)]
        steps = [("weld", i) for i in range(12)]
        rows = []
        for _ in parts:
            rows += ["part rod"] + [f"size {word} 1" for word in "bcdefg"]
        rows += join_rows(joins) + [f"step weld {i}" for i in range(12)]
        self.writes((parts, joins, steps), "\n".join(rows))

    def test_written_and_read_again_it_is_the_same(self):
        for seed in range(60):
            source = random.Random(seed)
            thing = made_thing(source)
            with self.subTest(seed=seed):
                text = write_thing(thing)
                told = read_thing(KINDS, text)
                self.same(told, thing)
                self.assertEqual(write_thing(told), text)

    def test_read_and_written_it_is_put_in_order(self):
        text = "part rod\n\n size wide 2\nstep weld 0\n part  bar\njoin x 1 0\nsize b 1\njoin b 0 1 \n"
        expected = "part rod\nsize wide 2\npart bar\nsize b 1\njoin b 0 1\njoin x 1 0\nstep weld 0"
        self.assertEqual(write_thing(read_thing(KINDS, text)), expected)


def made_thing(source):
    parts = []
    for _ in range(source.randint(2, 8)):
        words = sorted(source.sample(["b", "long", "wide", "deep", "heavy"], source.randint(0, 4)))
        sizes = [(word, source.randint(-10 ** source.randint(0, 29), 10 ** 29)) for word in words]
        parts.append((source.choice(KINDS)[0], sizes))
    every = [(word, i, j) for word in ("clip", "nail") for i in range(len(parts)) for j in range(len(parts)) if i != j]
    joins = sorted(source.sample(every, source.randint(0, min(16, len(every)))))
    steps = [(source.choice(["weld", "bend"]), source.randrange(len(parts))) for _ in range(source.randint(0, 8))]
    return (parts, joins, steps)


class RefusingTest(Checks, unittest.TestCase):
    def refuses(self, rows, refusal, row):
        text = rows if isinstance(rows, str) else "\n".join(rows)
        fields = {"claim": 0, "row": row} if refusal in (NoKind, TooBig) else {"row": row}
        with self.subTest(text=text):
            self.refused(refusal, fields, read_thing, KINDS, text)

    # Behind other rows, with rows without a word among them, and with good rows behind.
    def refuses_row(self, row, refusal):
        self.refuses(AHEAD + [row], refusal, 5)
        self.refuses(["", " "] + AHEAD + ["", "  " + row + " ", "", "part cap"], refusal, 8)

    def test_the_rows_ahead_are_right(self):
        for row in ("part cap", "size wide 1", "join clip 1 0", "step weld 0"):
            read_thing(KINDS, "\n".join(AHEAD + [row]))

    def test_a_word_too_few_or_too_many(self):
        for row in (
            "part", "part rod bar", "part rod 1", "size", "size wide", "size 1", "size wide 1 2", "size wide high 1",
            "join", "join clip", "join clip 1", "join 1 0", "join clip clip 1 0", "join clip 1 0 1", "join clip 1 0 rod",
            "step", "step weld", "step 0", "step weld 0 1", "step weld bend 0", "step weld 0 rod",
        ):
            self.refuses_row(row, BadRow)

    def test_another_row(self):
        for row in (
            "rod", "parts rod", "par rod", "Part rod", "PART rod", "kind rod", "claim", "a rod", "the rod long of 3",
            "sizes wide 1", "Size wide 1", "joins clip 1 0", "join, clip 1 0", "steps weld 0", "then weld 0", "0", "~",
            "rod part", "wide size 1", "clip join 1 0", "weld step 0", "size 1 wide", "join 1 clip 0", "join 1 0 clip",
            "step 0 weld",
        ):
            self.refuses_row(row, BadRow)

    def test_no_word_where_a_word_must_stand(self):
        for word in NO_WORDS:
            self.refuses_row("part " + word, BadRow)
            self.refuses_row(f"size {word} 1", BadRow)
            self.refuses_row(f"join {word} 1 0", BadRow)
            self.refuses_row(f"step {word} 0", BadRow)

    def test_a_number_written_otherwise(self):
        for number in NO_NUMBERS:
            self.refuses_row("size wide " + number, BadRow)
            self.refuses_row(f"join clip {number} 0", BadRow)
            self.refuses_row(f"join clip 1 {number}", BadRow)
            self.refuses_row("step weld " + number, BadRow)

    def test_a_size_above_all_parts(self):
        self.refuses("size long 3", BadRow, 0)
        self.refuses("\nsize long 3\npart rod", BadRow, 1)
        self.refuses("size the 3\npart rod", BadRow, 0)

    def test_a_join_with_both_numbers_alike(self):
        for number in ("0", "1", "2", "-1", "7", THIRTY, "-" + THIRTY):
            self.refuses_row(f"join clip {number} {number}", BadRow)
        self.refuses("join clip 0 0", BadRow, 0)

    def test_an_unknown_kind(self):
        for kind in ("ro", "rods", "part", "kind", "x", "long", "clip"):
            self.refuses_row("part " + kind, NoKind)
            self.refuses("part " + kind, NoKind, 0)
        self.refused(NoKind, {"claim": 0, "row": 1}, read_thing, [], "\npart rod")

    def test_a_number_that_is_no_parts(self):
        for number in ("2", "3", "-1", "-2", "8", "10", THIRTY, "-" + THIRTY):
            self.refuses_row(f"join clip {number} 0", NoPart)
            self.refuses_row(f"join clip 1 {number}", NoPart)
            self.refuses_row(f"step weld {number}", NoPart)
        self.refuses("step weld 0", NoPart, 0)
        self.refuses("join clip 0 1", NoPart, 0)
        self.refuses("part rod\njoin clip 0 1\npart bar", NoPart, 1)
        self.refuses("part rod\njoin clip 1 0\npart bar", NoPart, 1)
        self.refuses("part rod\nstep weld 1\npart bar", NoPart, 1)

    def test_a_size_or_a_join_told_above(self):
        for number in ("3", "4", "-3", "0"):
            self.refuses_row("size long " + number, Twice)
        self.refuses_row("join clip 0 1", Twice)
        self.refuses("part rod\nsize long 3\nsize wide 3\nsize long 4\npart bar", Twice, 3)
        self.refuses(AHEAD + ["join glue 0 1", "join clip 1 0", "join clip 0 1"], Twice, 7)

    def test_a_ninth_part(self):
        for kind, upper in KINDS:
            self.refuses(EIGHT + ["part " + kind], TooBig, 8)
        self.refuses(EIGHT[:4] + ["", "size b 1"] + EIGHT[4:] + ["step weld 0", "part rod", "part rod"], TooBig, 11)

    def test_a_fifth_size(self):
        rows = ["part rod", "size b 1", "size c 1", "size d 1", "size e 1"]
        self.refuses(rows + ["size f 1"], TooBig, 5)
        self.refuses(rows + ["step weld 0", "size bb 1", "size f 1"], TooBig, 6)
        self.refuses(rows + rows + ["size f 1"], TooBig, 10)

    def test_a_seventeenth_join(self):
        rows = EIGHT + join_rows(JOINS)
        self.refuses(rows + ["join x 4 5"], TooBig, 24)
        self.refuses(rows + ["step weld 0", "join b 4 5"], TooBig, 25)

    def test_a_ninth_step(self):
        for word in ("weld", "bend"):
            self.refuses(["part rod"] + ["step weld 0"] * 8 + ["", f"step {word} 0"], TooBig, 10)

    def test_two_reasons_in_one_part(self):
        for row in ("part new old", "part New", "part the new", "parts new"):
            self.refuses_row(row, BadRow)
            self.refuses(EIGHT + [row], BadRow, 8)
        self.refuses(EIGHT + ["part rod rod"], BadRow, 8)
        self.refuses(EIGHT + ["part new"], NoKind, 8)

    def test_two_reasons_in_one_size(self):
        rows = ["part rod", "size b 1", "size c 1", "size d 1", "size e 1"]
        for row in ("size b 01", "size b 1 1", "size b", "size b x", "size f -0", "size f", "size the 1", "size F 1"):
            self.refuses(rows + [row], BadRow, 5)
        for word in "bcde":
            self.refuses(rows + [f"size {word} 2"], Twice, 5)
        self.refuses_row("size long 03", BadRow)

    def test_two_reasons_in_one_join(self):
        full = EIGHT + join_rows(JOINS)
        for row in ("join x 8 8", "join x -1 -1", "join the 0 8", "join x 0 08", "join x 08 0", "join x 8", "join x 8 0 1"):
            self.refuses_row(row, BadRow)
            self.refuses(full + [row], BadRow, 24)
        for row in ("join clip 0 01", "join clip 0 1 1", "join Clip 0 1", "join x 4 4", "join x 4 +5"):
            self.refuses_row(row, BadRow)
            self.refuses(full + [row], BadRow, 24)
        for row in ("join x 0 8", "join x 8 0", "join x -1 0", "join x 8 9", "join clip 0 " + THIRTY):
            self.refuses(full + [row], NoPart, 24)
        for row in join_rows(JOINS):
            self.refuses(full + [row], Twice, 24)

    def test_two_reasons_in_one_step(self):
        rows = ["part rod"] + ["step weld 0"] * 8
        for row in ("step the 1", "step weld 01", "step weld 1 1", "step Weld 1", "step weld"):
            self.refuses_row(row, BadRow)
            self.refuses(rows + [row], BadRow, 9)
        for row in ("step weld 1", "step weld -1", "step bend " + THIRTY):
            self.refuses(rows + [row], NoPart, 9)

    def test_the_first_row_at_fault_is_refused(self):
        faults = [
            ("part", BadRow), ("part new", NoKind), ("size long", BadRow), ("size long 1", Twice),
            ("join clip 1 1", BadRow), ("join clip 0 2", NoPart), ("join clip 0 1", Twice), ("step weld 2", NoPart),
        ]
        for (one, refusal), (other, _) in itertools.product(faults, faults):
            self.refuses(AHEAD + [one, other], refusal, 5)
            self.refuses(AHEAD + ["", one, "size wide 1", other], refusal, 6)
        for row, refusal in faults:
            self.refuses(AHEAD + ["step weld 0"] * 8 + [row], TooBig, 12)
            self.refuses(AHEAD + ["step weld 0"] * 7 + [row, "step weld 0"], refusal, 12)

    def test_a_refused_text_leaves_nothing_behind(self):
        self.refuses("part rod\nsize long 1\nsize long 1", Twice, 2)
        self.same(read_thing(KINDS, "part rod\nsize long 1"), ([("rod", [("long", 1)])], [], []))


if __name__ == "__main__":
    unittest.main()

import string
import unittest

from claimwise.words import is_word, number_in, rows_in

KEPT = "a an the said claim on or then from to of at least most just is".split()
LETTERS = string.ascii_lowercase
# All signs that a text may hold, some that it may not, and letters and figures of other scripts.
SIGNS = [chr(code) for code in range(0x250)] + list("\u0430\u0660\u0967\u2028\uff11\uff41\U0001d7ce")


class IsWordTest(unittest.TestCase):
    def tells(self, text, expected):
        with self.subTest(text=text):
            self.assertIs(is_word(text), expected)

    def test_one_to_eight_letters(self):
        for length in range(1, 9):
            self.tells("rodbaxyz"[:length], True)
        for letter in LETTERS:
            self.tells(letter, letter != "a")
            self.tells(letter * 8, True)

    def test_no_letter(self):
        self.tells("", False)

    def test_nine_letters_and_more(self):
        for length in (9, 10, 16, 100):
            self.tells("x" * length, False)

    def test_another_sign_at_each_place(self):
        for length in (1, 2, 5, 8):
            whole = "bcdefghi"[:length]
            for place in range(length):
                for sign in SIGNS:
                    if sign not in LETTERS:
                        self.tells(whole[:place] + sign + whole[place + 1:], False)

    def test_another_sign_put_between(self):
        for sign in ("\n", " ", "-", "A", "0", "_"):
            for place in range(5):
                self.tells("bolt"[:place] + sign + "bolt"[place:], False)

    def test_kept_words(self):
        for word in KEPT:
            self.tells(word, False)

    def test_a_kept_word_with_a_letter_more(self):
        for word in KEPT:
            for place in range(len(word) + 1):
                for letter in LETTERS:
                    longer = word[:place] + letter + word[place:]
                    self.tells(longer, longer not in KEPT)

    def test_a_kept_word_with_a_letter_less(self):
        for word in KEPT:
            for place in range(len(word)):
                shorter = word[:place] + word[place + 1:]
                self.tells(shorter, shorter != "" and shorter not in KEPT)

    def test_a_kept_word_with_a_capital_is_none_either(self):
        for word in KEPT:
            self.tells(word.upper(), False)
            self.tells(word.capitalize(), False)

    def test_words_that_rows_begin_with_are_not_kept(self):
        for word in ("kind", "part", "size", "join", "step"):
            self.tells(word, True)


class NumberInTest(unittest.TestCase):
    def tells(self, text, expected):
        with self.subTest(text=text):
            told = number_in(text)
            self.assertIs(type(told), type(expected))
            self.assertEqual(told, expected)

    def test_nought(self):
        self.tells("0", 0)

    def test_figures_alone_and_below_nought(self):
        for number in list(range(1, 1000)) + [1000, 10203, 90, 100]:
            self.tells(str(number), number)
            self.tells("-" + str(number), -number)

    def test_one_to_thirty_figures(self):
        for length in range(1, 31):
            for figures in ("1" + "0" * (length - 1), "9" * length, "123456789012345678901234567890"[:length]):
                self.tells(figures, int(figures))
                self.tells("-" + figures, -int(figures))

    def test_thirty_one_figures_and_more(self):
        for length in (31, 32, 60, 5000):
            self.tells("1" * length, None)
            self.tells("-" + "1" * length, None)
            self.tells("0" * length, None)

    def test_minus_nought(self):
        self.tells("-0", None)

    def test_a_nought_ahead(self):
        for text in ("00", "01", "007", "000", "-00", "-01", "-007", "0" + "1" * 29, "-0" + "1" * 29):
            self.tells(text, None)

    def test_a_plus(self):
        for text in ("+", "+0", "+1", "+12", "+-1", "-+1"):
            self.tells(text, None)

    def test_minuses(self):
        for text in ("-", "--", "--1", "---1", "1-", "1-1", "-1-", "- 1"):
            self.tells(text, None)

    def test_the_empty_text(self):
        self.tells("", None)

    def test_another_sign_at_each_place(self):
        for whole in ("5", "12", "123456", "-5", "-123"):
            for place in range(len(whole)):
                for sign in SIGNS:
                    if sign not in string.digits and not (sign == "-" and place == 0):
                        self.tells(whole[:place] + sign + whole[place + 1:], None)

    def test_another_sign_put_between(self):
        for whole in ("12", "-12"):
            for place in range(len(whole) + 1):
                for sign in (" ", "\n", "\t", "_", ".", ",", "+", "e", "x", "\u0661"):
                    self.tells(whole[:place] + sign + whole[place:], None)

    def test_words(self):
        for text in ("x", "one", "1x", "x1", "0x1", "1e5", "1.0", "True", "False", "None"):
            self.tells(text, None)


class RowsInTest(unittest.TestCase):
    def test_rows_and_words(self):
        cases = [
            ("", [[]]),
            ("   ", [[]]),
            ("\n", [[], []]),
            ("one", [["one"]]),
            ("one\n", [["one"], []]),
            ("  one   two ", [["one", "two"]]),
            ("\n \none two\n\nthree", [[], [], ["one", "two"], [], ["three"]]),
            ("-1 ~ !", [["-1", "~", "!"]]),
        ]
        for text, rows in cases:
            with self.subTest(text=text):
                self.assertEqual(rows_in(text), rows)

    def test_two_hundred_rows_of_two_hundred_signs(self):
        rows = rows_in("\n".join(["x " * 100] * 200))
        self.assertEqual(rows, [["x"] * 100] * 200)

    def test_no_two_lists_are_one_and_the_same(self):
        rows = rows_in("\n\none\none")
        rows[0].append("more")
        rows[2].append("more")
        self.assertEqual(rows, [["more"], [], ["one", "more"], ["one"]])


if __name__ == "__main__":
    unittest.main()

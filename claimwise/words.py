"""What a word is and what a number is, and how a text is parted into rows and words."""

KEPT_WORDS = (
    "a", "an", "the", "said", "claim", "on", "or", "then",
    "from", "to", "of", "at", "least", "most", "just", "is",
)
MOST_LETTERS = 8
MOST_FIGURES = 30


def is_word(text):
    if not 1 <= len(text) <= MOST_LETTERS:
        return False
    return all_within(text, "a", "z") and text not in KEPT_WORDS


def number_in(text):
    figures = text[1:] if text.startswith("-") else text
    if not is_figures(figures) or text == "-0":
        return None
    return int(text)


def is_figures(text):
    if not 1 <= len(text) <= MOST_FIGURES or not all_within(text, "0", "9"):
        return False
    return text == "0" or not text.startswith("0")


# The signs are held against bounds, as isdigit and islower take signs of other scripts too.
def all_within(text, first, last):
    return all([first <= sign <= last for sign in text])


# A row without a word is told as an empty list, so that the rows behind it keep their numbers.
def rows_in(text):
    return [words_in(row) for row in text.split("\n")]


def words_in(row):
    return [word for word in row.split(" ") if word != ""]

"""Words of texts: the pieces between blanks and line feeds, and the numbers among them."""

from besthours.checks import is_within

FIGURES = "0123456789"
MOST_FIGURES = 600
GREATEST = (10 ** 60) ** 10 - 1


def line_words(line):
    """The words of a line; other kinds of blanks belong to words."""
    return [word for word in line.split(" ") if word != ""]


def placed_words(text):
    """(WORD, LINE, NUMBER) of each word, and last ("", LINE, NUMBER) of the place where the text ends."""
    lines = [line_words(line) for line in text.split("\n")]
    found = []
    for line, words in enumerate(lines):
        for number, word in enumerate(words):
            found.append((word, line, number))
    # no form wants the word "", so what ends too early is refused there like any wrong word
    found.append(("", len(lines) - 1, len(lines[-1])))
    return found


def is_number_word(word):
    """Whether a word is a number without needless zeros, of at most 600 figures."""
    if not 1 <= len(word) <= MOST_FIGURES or not all(figure in FIGURES for figure in word):
        return False
    return word == "0" or word[0] != "0"


def is_number(value):
    """Whether a value is an integer that has a word."""
    return is_within(value, 0, GREATEST)

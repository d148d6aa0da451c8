"""Names, numbers in texts, and the words of a text."""

from sumtalk.errors import BadText

LETTERS = "abcdefghijklmnopqrstuvwxyz"
FIGURES = "0123456789"
MAX_NAME = 12
MAX_FIGURES = 300
MAX_TEXT = 20000


def is_name(word):
    """True if the argument is a name."""
    if not isinstance(word, str) or not 1 <= len(word) <= MAX_NAME:
        return False
    return word[0] in LETTERS and all([letter in LETTERS + FIGURES for letter in word])


def check_text(text):
    """Raise BadText unless the argument is a text that a reader looks at."""
    if not isinstance(text, str) or len(text) > MAX_TEXT:
        raise BadText()


def check_written(text, written):
    """Raise BadText unless a text is what the writer returns for the value read."""
    if text != written:
        raise BadText()


def read_number(text):
    """The integer that is written in decimal figures."""
    check_text(text)
    if not 1 <= len(text) <= MAX_FIGURES:
        raise BadText()
    # Python's int takes signs, spaces, underscores and foreign figures too.
    if not all([figure in FIGURES for figure in text]):
        raise BadText()
    if text[0] == "0" and text != "0":
        raise BadText()
    return int(text)


def write_numbers(integers):
    """The numbers word of a row of integers."""
    if not integers:
        return "-"
    return ".".join([str(integer) for integer in integers])


def read_numbers(text):
    """The list of integers of a numbers word."""
    check_text(text)
    if text == "-":
        return []
    return [read_number(word) for word in text.split(".")]


def split_words(text):
    """The list of the words of a text, separated by single spaces."""
    if text == "":
        return []
    words = text.split(" ")
    if "" in words or "\n" in text:
        raise BadText()
    return words

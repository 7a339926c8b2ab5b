"""Marks and bytes as texts of their numbers [36]."""

from seekpress.errors import NoText
from seekpress.rule import is_mark

NONE = "none"
# More figures than any mark has; and Python reads no number of very many.
MOST_FIGURES = 3


def is_figures(word):
    # No isdigit: it takes figures of other scripts too.
    return len(word) > 0 and all(["0" <= sign <= "9" for sign in word])


def is_number(word, most_figures):
    if not is_figures(word) or len(word) > most_figures:
        return False
    return word == "0" or not word.startswith("0")


def read_mark(word):
    if not is_number(word, MOST_FIGURES) or not is_mark(int(word)):
        raise NoText("a word is no number from 0 to 255")
    return int(word)


def show_marks(marks):
    return " ".join([str(mark) for mark in marks]) if marks else NONE


def read_marks(text):
    if not isinstance(text, str):
        raise NoText("this is no text")
    if text == NONE:
        return []
    return [read_mark(word) for word in text.split(" ")]

"""Places in a text, and the stretches between two of them [24, 32]."""

from seekpress.errors import NoPlace
from seekpress.rule import is_whole


def refuse_no_stretch(a, b, long):
    # Kinds ahead of bounds: what is no number can't be compared with one.
    if not is_whole(a) or not is_whole(b) or not 0 <= a <= b <= long:
        raise NoPlace("no such stretch is in the text")


def meets(begin, long, a, b):
    return max(a, begin) < min(b, begin + long)


def within(marks, begin, a, b):
    return marks[max(a - begin, 0):max(b - begin, 0)]

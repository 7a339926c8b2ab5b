"""Texts as marks and repeats of what stands ahead [11, 12]."""

from seekpress.errors import NoRepeat
from seekpress.rule import is_mark

LEAST_LONG = 3


# A repeat is three marks or more, so it can only begin where the same three marks stood ahead.
def places_of_threes(text):
    places = {}
    for at in range(len(text) - LEAST_LONG + 1):
        three = tuple(text[at:at + LEAST_LONG])
        places.setdefault(three, []).append(at)
    return places


def still_alike(text, begins, at, long):
    if at + long == len(text):
        return []
    return [begin for begin in begins if text[begin + long] == text[at + long]]


def repeat_from(text, begins, at):
    long = LEAST_LONG
    longer = still_alike(text, begins, at, long)
    while longer:
        begins = longer
        long += 1
        longer = still_alike(text, begins, at, long)
    # The begins rise, so the last one is the nearest.
    return (at - begins[-1], long)


def tokens_of(text):
    places = places_of_threes(text)
    tokens = []
    at = 0
    while at < len(text):
        three = tuple(text[at:at + LEAST_LONG])
        begins = [begin for begin in places.get(three, []) if begin < at]
        if begins:
            repeat = repeat_from(text, begins, at)
            tokens.append(repeat)
            at += repeat[1]
        else:
            tokens.append(text[at])
            at += 1
    return tokens


def repeated(text, back, long):
    if back < 1 or back > len(text):
        raise NoRepeat("a repeat reaches back to no mark that is laid out")
    if long < LEAST_LONG:
        raise NoRepeat("a repeat is too short")
    begin = len(text) - back
    # Where a repeat reaches into itself, the marks behind its begin come over and over.
    return [text[begin + at % back] for at in range(long)]


def laid_out(tokens):
    text = []
    for token in tokens:
        if isinstance(token, tuple):
            text.extend(repeated(text, token[0], token[1]))
        elif is_mark(token):
            text.append(token)
        else:
            raise NoRepeat("a number is no mark")
    return text

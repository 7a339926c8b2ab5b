"""Marks, texts, and the rule by which texts are cut [7]."""

from seekpress.errors import NoRule


def is_whole(thing):
    # Python counts truths among the ints; the document doesn't.
    return isinstance(thing, int) and not isinstance(thing, bool)


def is_mark(thing):
    return is_whole(thing) and 0 <= thing <= 255


def is_text(thing):
    return isinstance(thing, list) and all([is_mark(mark) for mark in thing])


class Rule:
    def __init__(self, part, least, most, kids):
        four = (part, least, most, kids)
        # Kinds ahead of bounds: what is no number can't be compared with one.
        if not all([is_whole(thing) for thing in four]):
            raise NoRule("a rule is made of four whole numbers")
        if not (1 <= part <= 64 and 3 <= least <= most <= 48 and 2 <= kids <= 8):
            raise NoRule("a number of the rule is out of its bounds")
        self.four = four

    def told(self):
        return self.four

    def part(self):
        return self.four[0]

    def least(self):
        return self.four[1]

    def most(self):
        return self.four[2]

    def kids(self):
        return self.four[3]

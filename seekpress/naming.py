"""The frames of knots and blocks as the frames above name them, and the way along the text through them [32, 35]."""

from seekpress.errors import Broken
from seekpress.frames import BLOCK, KNOT, knot_kids


# A frame by what is told of it elsewhere: its place, where its marks begin, how many it has, its level.
class Named:
    def __init__(self, place, begin, size, height):
        self.place = place
        self.begin = begin
        self.size = size
        # None for a root, which may be of any level.
        self.height = height


def is_knot_as_named(named, body):
    if named.height is not None and named.height != body[0]:
        return False
    return sum([long for place, long in knot_kids(body)]) == named.size


# Of the other kinds none is named, and their bodies are no knots'.
def is_as_named(named, kind, body, marks):
    if kind == BLOCK:
        return named.height == 0 and len(marks) == named.size
    return kind == KNOT and is_knot_as_named(named, body)


def refuse_unlike(named, found):
    if not is_as_named(named, found[0], found[2], found[4]):
        raise Broken(named.place)


def kids_named(named, body):
    kids = []
    begin = named.begin
    for place, long in knot_kids(body):
        kids.append(Named(place, begin, long, body[0] - 1))
        begin += long
    return kids


# Each frame ahead of those that it names, and these in order. A list, as knots may stand on knots deeper than calls go.
def walk_along(root, visit):
    going = [root]
    while going:
        below = visit(going.pop())
        below.reverse()
        going.extend(below)

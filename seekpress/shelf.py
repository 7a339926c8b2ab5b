"""A shelf: a container that is sought in, of which only the frames that are needed are fetched [32]."""

from seekpress.errors import Broken
from seekpress.frames import BLOCK, CHECK, END, END_SIZE, HEAD, KNOT, full_size, may_be_frame, read_opened, wide_numbers
from seekpress.naming import Named, kids_named, refuse_unlike, walk_along
from seekpress.places import meets, refuse_no_stretch, within


def read_end(data, place, size):
    try:
        found = read_opened(data, 0)
    except Broken:
        raise Broken(place) from None
    if found[0] != END or wide_numbers(found[2])[2] != size:
        raise Broken(place)
    return wide_numbers(found[2])


class Shelf:
    def __init__(self, size, fetch):
        if size < END_SIZE:
            raise Broken(0)
        self.fetch = fetch
        # No frame that is sought reaches up to it, so that the end's bytes are not asked for again.
        self.end_place = size - END_SIZE
        told = read_end(fetch(self.end_place, size), self.end_place, size)
        self.root_place = told[0]
        self.whole = told[1]

    def long(self):
        return self.whole

    def stretch(self, a, b):
        refuse_no_stretch(a, b, self.whole)
        if a == b:
            return []
        seeking = Seeking(self.fetch, self.end_place, a, b)
        walk_along(Named(self.root_place, 0, self.whole, None), lambda named: seeking.visit(named))
        return seeking.sought


# One stretch that is sought: what was fetched for it is fetched once, also where a frame is named twice.
class Seeking:
    def __init__(self, fetch, end_place, a, b):
        self.fetch = fetch
        self.end_place = end_place
        self.a = a
        self.b = b
        self.fetched = {}
        self.sought = []

    def visit(self, named):
        if named.place not in self.fetched:
            self.fetched[named.place] = self.read(named.place)
        found = self.fetched[named.place]
        refuse_unlike(named, found)
        if found[0] == BLOCK:
            self.sought.extend(within(found[4], named.begin, self.a, self.b))
            return []
        return [kid for kid in kids_named(named, found[2]) if meets(kid.begin, kid.size, self.a, self.b)]

    def refuse_beyond(self, place, size):
        if place + size > self.end_place:
            raise Broken(place)

    def read(self, place):
        self.refuse_beyond(place, HEAD + CHECK)
        ask = self.fetch
        # A copy at once: the fetch may keep its list, and change it by the next asking.
        head = list(ask(place, place + HEAD))
        if len(head) < HEAD or not may_be_frame(head) or head[0] not in (BLOCK, KNOT):
            raise Broken(place)
        size = full_size(head)
        self.refuse_beyond(place, size)
        data = head + ask(place + HEAD, place + size)
        try:
            return read_opened(data, 0)
        except Broken:
            raise Broken(place) from None

"""The container of a make: its blocks, its book's knots, and the end, as frames [30]."""

from seekpress.bits import low_bytes
from seekpress.frames import AGAIN, BLOCK, END, END_SIZE, KNOT, end_body, frame, knot_body


# The bytes as they are laid, with where each thing of the store stands in them.
class Laying:
    def __init__(self, store):
        self.storage = store
        self.data = []
        self.frames = 0
        self.first_frames = {}
        self.first_places = {}

    def lay(self, kind, body):
        self.data.extend(frame(kind, self.frames, body))
        self.frames += 1

    def note(self, number):
        self.first_frames[number] = self.frames
        self.first_places[number] = len(self.data)

    def lay_block(self, number):
        if number in self.first_frames:
            self.lay(AGAIN, low_bytes(self.first_frames[number], 2))
            return
        self.note(number)
        self.lay(BLOCK, self.storage.bytes_of(number))

    def lay_knot(self, number):
        if number in self.first_frames:
            return
        self.note(number)
        kids = [(self.first_places[kid], self.storage.long(kid)) for kid in self.storage.kids(number)]
        self.lay(KNOT, knot_body(self.storage.level(number), kids))

    def lay_end(self, root, long):
        place = 0 if root is None else self.first_places[root]
        self.lay(END, end_body(place, long, len(self.data) + END_SIZE))


# From row 1 up to the root's, as they are found from the root down.
def rows_of_knots(store, root):
    if root is None:
        return []
    rows = []
    row = [root]
    for turn in range(store.level(root)):
        rows.append(row)
        below = []
        for number in row:
            below.extend(store.kids(number))
        row = below
    rows.reverse()
    return rows


def container(makes, name):
    root = makes.root(name)
    laying = Laying(makes.store())
    for number in makes.blocks(name):
        laying.lay_block(number)
    for row in rows_of_knots(makes.store(), root):
        for number in row:
            laying.lay_knot(number)
    laying.lay_end(root, makes.long(name))
    return laying.data

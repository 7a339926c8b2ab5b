"""What can be told of a container that is broken: where it is wrong, what is left, and what is lost [34, 35]."""

from seekpress.bits import number_of
from seekpress.errors import Broken
from seekpress.frames import AGAIN, BLOCK, END, END_BODY, END_SIZE, HEAD, SIZE_AT, read_opened, wide_numbers
from seekpress.naming import Named, kids_named, refuse_unlike, walk_along


# The frames from the begin on, up to the first wrong one, with the marks that they tell.
class Going:
    def __init__(self, data):
        self.data = data
        self.at = 0
        self.frames = {}
        self.told_blocks = {}
        self.read_text = []
        self.last_kind = None

    def go_on(self):
        found = read_opened(self.data, self.at)
        if found[1] != len(self.frames):
            raise Broken(self.at)
        self.frames[self.at] = found
        self.last_kind = found[0]
        self.at = found[3]
        if found[0] == BLOCK:
            self.told_blocks[found[1]] = found[4]
            self.read_text.extend(found[4])
        elif found[0] == AGAIN:
            # An again that names no block stands in no container, and tells nothing.
            self.read_text.extend(self.told_blocks.get(number_of(found[2]), []))

    def wrong_place(self):
        while self.at < len(self.data):
            try:
                self.go_on()
            except Broken:
                return self.at
        return None if self.last_kind == END else len(self.data)


# What is told of the text, put together where it touches.
class Telling:
    def __init__(self):
        self.pieces = []
        self.lost = []

    def add_piece(self, begin, marks):
        if self.pieces and self.pieces[-1][0] + len(self.pieces[-1][1]) == begin:
            self.pieces[-1][1].extend(marks)
        elif marks:
            self.pieces.append((begin, list(marks)))

    def add_lost(self, begin, end):
        if self.lost and self.lost[-1][1] == begin:
            begin = self.lost.pop()[0]
        self.lost.append((begin, end))

    def told(self, place):
        return (place, self.pieces, self.lost)


# The text as the knots tell it, by the places that the frames had in the whole container.
class Mending:
    def __init__(self, going, wrong, taken_out):
        self.data = going.data
        self.frames = dict(going.frames)
        self.wrong = wrong
        self.taken_out = taken_out
        self.telling = Telling()

    def frame_at(self, place):
        here = place if place < self.wrong else place - self.taken_out
        if here not in self.frames:
            self.frames[here] = read_opened(self.data, here)
        return self.frames[here]

    def visit(self, named):
        if named.place == self.wrong and named.height == 0:
            self.telling.add_lost(named.begin, named.begin + named.size)
            return []
        if named.place == self.wrong:
            raise Broken(named.place)
        found = self.frame_at(named.place)
        refuse_unlike(named, found)
        if found[0] == BLOCK:
            self.telling.add_piece(named.begin, found[4])
            return []
        return [kid for kid in kids_named(named, found[2]) if kid.size > 0]


# The root's place, the long and the size, where the last bytes are an end frame; else none.
def end_numbers(data):
    if len(data) < END_SIZE:
        return []
    try:
        found = read_opened(data, len(data) - END_SIZE)
    except Broken:
        return []
    return wide_numbers(found[2]) if found[0] == END else []


# A frame that was cut off can't look like this: with so many bytes left it would be whole.
def is_wrong_end(data, wrong):
    left = data[wrong:]
    return len(left) == END_SIZE and (left[0] == END or left[SIZE_AT:HEAD] == [0, END_BODY])


def all_read(going, wrong):
    telling = Telling()
    telling.add_piece(0, going.read_text)
    return telling.told(wrong)


def cut_off(going, wrong):
    telling = Telling()
    telling.add_piece(0, going.read_text)
    telling.add_lost(len(going.read_text), None)
    return telling.told(wrong)


def mended(going, wrong, numbers):
    mending = Mending(going, wrong, numbers[2] - len(going.data))
    try:
        walk_along(Named(numbers[0], 0, numbers[1], None), lambda named: mending.visit(named))
    except Broken:
        # A knot is the wrong frame, and all text stands ahead of the knots.
        return all_read(going, wrong)
    return mending.telling.told(wrong)


def rescued(data):
    going = Going(data)
    wrong = going.wrong_place()
    if wrong is None:
        return all_read(going, wrong)
    numbers = end_numbers(data)
    if numbers:
        return mended(going, wrong, numbers)
    return all_read(going, wrong) if is_wrong_end(data, wrong) else cut_off(going, wrong)

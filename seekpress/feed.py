"""A feed: a container that is read in whatever pieces it comes [33]."""

from seekpress.bits import number_of
from seekpress.errors import Broken
from seekpress.frames import AGAIN, BLOCK, END, full_size, may_follow, read_opened, wide_numbers


class Feed:
    def __init__(self):
        # The bytes of the frame that isn't whole yet, and its place.
        self.row = []
        self.begin = 0
        self.next_number = 0
        self.block_marks = {}
        self.told_marks = []
        self.has_end = False
        self.wrong = None

    def marks(self):
        return list(self.told_marks)

    def ended(self):
        return self.has_end

    def feed(self, data):
        for byte in data:
            # Byte by byte, so that nothing hangs on how they are cut into pieces.
            self.refuse_wrong()
            self.bring(byte)
        self.refuse_wrong()

    def refuse_wrong(self):
        if self.wrong is not None:
            raise Broken(self.wrong)

    def bring(self, byte):
        if self.has_end or not may_follow(len(self.row), byte):
            self.wrong = self.begin
            return
        self.row.append(byte)
        # Of fewer bytes than a head has a size is told too, but one that they don't reach.
        if len(self.row) == full_size(self.row):
            self.bring_frame()

    def bring_frame(self):
        try:
            self.tell(read_opened(self.row, 0))
        except Broken:
            self.wrong = self.begin
            return
        self.next_number += 1
        self.begin += len(self.row)
        self.row = []

    def tell(self, found):
        if found[1] != self.next_number:
            raise Broken(self.begin)
        if found[0] == BLOCK:
            self.block_marks[found[1]] = found[4]
            self.told_marks.extend(found[4])
        elif found[0] == AGAIN:
            self.tell_again(number_of(found[2]))
        elif found[0] == END:
            self.tell_end(wide_numbers(found[2]))

    def tell_again(self, number):
        if number not in self.block_marks:
            raise Broken(self.begin)
        self.told_marks.extend(self.block_marks[number])

    def tell_end(self, numbers):
        if numbers[1:] != [len(self.told_marks), self.begin + len(self.row)]:
            raise Broken(self.begin)
        self.has_end = True

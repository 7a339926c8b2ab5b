import unittest

import slowly
from making import some_text
from seekpress.blocks import plain, pressed
from seekpress.errors import Broken
from seekpress.frames import frame, read_frame

BLOCK, AGAIN, KNOT, END = 128, 129, 130, 131
KID = [0, 0, 0, 0, 0, 3]
BODIES = (
    (BLOCK, pressed([1])), (BLOCK, pressed([1, 2, 3, 4])), (BLOCK, pressed([5] * 48)),
    (BLOCK, pressed(some_text(48, 256, 1))), (AGAIN, [0, 0]), (AGAIN, [127, 127]), (KNOT, [1, 1] + KID),
    (KNOT, [0, 1] + KID), (KNOT, [127, 2] + KID + [127] * 6), (KNOT, [3, 127] + KID * 127), (END, [0] * 9),
    (END, [127] * 9), (END, [0, 0, 1, 0, 0, 2, 0, 0, 3]),
)
NUMBERS = (0, 1, 127, 128, 5000, 16383)
# Bodies that are none of their kind.
WRONG = (
    (AGAIN, []), (AGAIN, [0]), (AGAIN, [0, 0, 0]), (END, []), (END, [0] * 8), (END, [0] * 10), (KNOT, []), (KNOT, [1]),
    (KNOT, [1, 0]), (KNOT, [0, 0]), (KNOT, [1, 1]), (KNOT, [1, 1] + KID[:5]), (KNOT, [1, 1] + KID + [0]),
    (KNOT, [1, 2] + KID), (KNOT, [1, 1] + KID + KID), (KNOT, [1, 0] + KID), (BLOCK, []), (BLOCK, [0]), (BLOCK, [127]),
    (BLOCK, pressed([1, 2, 3]) + [0]), (BLOCK, pressed([1, 2, 3])[:-1]), (BLOCK, plain([5] * 40)),
)


class FrameTest(unittest.TestCase):
    def test_by_hand(self):
        # 131 + 2 * 0 + 3 * 1 + 4 * 0 + 5 * 0 is 134.
        self.assertEqual(frame(END, 1, []), [131, 0, 1, 0, 0, 1, 6])
        # 129 + 2 * 1 + 3 * 1 + 4 * 0 + 5 * 2 + 6 * 1 + 7 * 2 is 164.
        self.assertEqual(frame(AGAIN, 129, [1, 2]), [129, 1, 1, 0, 2, 1, 2, 1, 36])

    def test_by_words(self):
        for kind, body in BODIES + WRONG:
            for number in NUMBERS:
                self.assertEqual(frame(kind, number, body), slowly.frame(kind, number, body))

    def test_a_body_of_the_most_bytes(self):
        body = some_text(16383, 128, 1)
        self.assertEqual(frame(BLOCK, 3, body), slowly.frame(BLOCK, 3, body))

    def test_the_body_stays_and_the_list_is_new(self):
        body = [1, 2]
        told = frame(kind=AGAIN, number=0, body=body)
        told.append(7)
        told[5] = 9
        self.assertEqual(body, [1, 2])
        self.assertEqual(frame(AGAIN, 0, body), slowly.frame(AGAIN, 0, [1, 2]))


class ReadTest(unittest.TestCase):
    def refused(self, data, at):
        with self.assertRaises(Broken) as caught:
            read_frame(data, at)
        self.assertEqual(caught.exception.place, at)

    def test_each_kind_at_each_place(self):
        for kind, body in BODIES:
            for number in NUMBERS:
                row = slowly.frame(kind, number, body)
                for ahead, behind in (([], []), ([1], []), ([], [128]), ([131, 0, 3], [0, 0, 255]), (row, row)):
                    told = read_frame(ahead + row + behind, len(ahead))
                    self.assertEqual(told, (kind, number, body, len(ahead) + len(row)))
                    self.assertIs(type(told), tuple)

    def test_what_is_handed_in_stays_and_the_body_is_new(self):
        data = slowly.frame(AGAIN, 3, [1, 2])
        told = read_frame(data=data, at=0)
        told[2].append(5)
        told[2][0] = 7
        self.assertEqual(data, slowly.frame(AGAIN, 3, [1, 2]))
        self.assertEqual(read_frame(data, 0), (AGAIN, 3, [1, 2], 9))
        data[5] = 9
        self.assertEqual(told[2], [7, 2, 5])

    def test_a_kind_that_is_none(self):
        for kind in (0, 1, 127, 132, 255):
            self.refused(slowly.frame(kind, 0, [0, 0]), 0)
        for byte in (0, 3, 127, 132, 200):
            self.refused([1, 2, byte] + slowly.frame(AGAIN, 0, [0, 0])[1:], 2)

    def test_bytes_that_end_ahead_of_the_end(self):
        for kind, body in BODIES:
            row = slowly.frame(kind, 5, body)
            for end in range(len(row)):
                self.refused(row[:end], 0)
                self.refused([128, 0] + row[:end], 2)

    def test_bytes_that_end_ahead_of_the_told_size_with_the_check_of_those_that_are_there(self):
        body = slowly.pressed([1, 2, 3])
        for kind, body in ((BLOCK, body), (AGAIN, [0, 1]), (END, [0] * 9), (KNOT, [1, 1] + KID)):
            for more in (1, 2, 100):
                row = [kind, 0, 0] + slowly.wide(len(body) + more, 2) + body
                row += slowly.wide(slowly.check(row), 2)
                self.refused(row, 0)
                self.refused(row[:1] + row, 1)

    def test_at_the_end_and_beyond(self):
        self.refused([], 0)
        self.refused([128], 1)
        self.refused(slowly.frame(AGAIN, 0, [0, 0]), 9)
        self.refused(slowly.frame(AGAIN, 0, [0, 0]), 100)
        self.refused(slowly.frame(AGAIN, 0, [0, 0]), 10 ** 39)

    def test_a_byte_that_is_no_low_one(self):
        # With the check that such bytes would have.
        for body in ([128, 0], [0, 255]):
            self.refused(slowly.frame(AGAIN, 0, body), 0)
        for at in range(1, 7):
            data = slowly.frame(AGAIN, 0, [0, 0])
            data[at] += 128
            data[7:] = slowly.wide(slowly.check(data[:7]), 2)
            self.refused(data, 0)
        for at in (7, 8):
            data = slowly.frame(AGAIN, 0, [0, 0])
            data[at] += 128
            self.refused(data, 0)

    def test_another_check(self):
        for kind, body in BODIES:
            row = slowly.frame(kind, 7, body)
            told = slowly.check(row[:-2])
            for other in (told + 1, told - 1, 0, 16383, 16381):
                if other != told and 0 <= other < 16384:
                    self.refused(row[:-2] + slowly.wide(other, 2), 0)
        # A check of 0 is written as 0 alone, not as the divisor.
        zero = [row for row in (slowly.frame(AGAIN, 0, [x, y]) for x in range(128) for y in range(128))
                if row[-2:] == [0, 0]]
        for row in zero:
            self.refused(row[:-2] + slowly.wide(16381, 2), 0)

    def test_bodies_that_are_none_of_their_kind(self):
        for kind, body in WRONG:
            with self.subTest(kind=kind, body=body[:9]):
                self.refused(slowly.frame(kind, 0, body), 0)
                self.refused([0] + slowly.frame(kind, 9, body) + [0], 1)
        for kind, body in BODIES:
            for other in (BLOCK, AGAIN, KNOT, END):
                if other != kind and (other, body) not in BODIES and slowly.opened(body) is None:
                    self.refused(slowly.frame(other, 0, body), 0)

    def test_each_bit_turned(self):
        for kind, body in BODIES:
            row = slowly.frame(kind, 300, body)
            for at in range(len(row)):
                for bit in range(8):
                    wrong = row[:at] + [row[at] ^ (1 << bit)] + row[at + 1:]
                    self.refused(wrong, 0)
                    self.refused(wrong + slowly.frame(AGAIN, 3, [0, 1]), 0)


if __name__ == "__main__":
    unittest.main()

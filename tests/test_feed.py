import inspect
import random
import unittest

import reading
import slowly
from making import some_text
from plainly import some_containers
from seekpress.errors import Broken
from seekpress.feed import Feed

FOUR = (4, 3, 12, 4)
SIZES = (0, 1, 3, 12, 60)
# Two blocks, one of which comes again, and a book of two levels.
TEXT = [0, 0, 0, 5, 1, 0, 0, 0, 0, 0, 0, 7]
DATA = slowly.container(TEXT, FOUR)


def state(feed):
    return (len(feed.marks()), feed.ended())


class FeedTest(unittest.TestCase):
    # Each piece by the states that the words tell; behind a refusal each later piece is refused too.
    def fed_by_words(self, data, pieces):
        marks, states = reading.feeding(data)
        feed, fed = Feed(), 0
        for piece in pieces:
            fed += len(piece)
            many, ended, wrong = states[fed]
            if wrong is None:
                self.assertIsNone(feed.feed(piece))
            else:
                self.refused(feed, piece, wrong)
            self.assertEqual(state(feed), (many, ended))
            self.assertEqual(feed.marks(), marks[:many])
        return feed

    def refused(self, feed, piece, place):
        with self.assertRaises(Broken) as caught:
            feed.feed(piece)
        self.assertEqual(caught.exception.place, place)

    def test_a_new_feed(self):
        feed = Feed()
        self.assertEqual((feed.marks(), feed.ended()), ([], False))
        self.assertIs(feed.ended(), False)
        self.assertIsNone(feed.feed([]))

    def test_whole_and_byte_by_byte(self):
        for text, data in some_containers(SIZES, 9):
            feed = Feed()
            self.assertIsNone(feed.feed(data))
            self.assertEqual((feed.marks(), feed.ended()), (text, True))
            self.assertIs(feed.ended(), True)
            self.fed_by_words(data, [[byte] for byte in data])
            self.assertIsNone(feed.feed([]))

    def test_in_two_pieces_cut_at_each_place(self):
        for cut in range(len(DATA) + 1):
            feed = self.fed_by_words(DATA, [DATA[:cut], [], DATA[cut:], []])
            self.assertEqual((feed.marks(), feed.ended()), (TEXT, True))

    def test_in_whatever_pieces(self):
        source = random.Random(5)
        for text, data in some_containers(SIZES, 9):
            self.fed_by_words(data, some_pieces(data, source))

    def test_the_marks_of_all_frames_that_are_whole(self):
        marks = 0
        for place, kind, number, body, after in reading.frames(DATA):
            feed = Feed()
            feed.feed(DATA[:after - 1])
            self.assertEqual(state(feed), (marks, False))
            feed.feed(DATA[after - 1:after])
            marks += {128: lambda: len(slowly.opened(body)), 129: lambda: 3}.get(kind, lambda: 0)()
            self.assertEqual(state(feed), (marks, kind == 131))

    def test_each_bit_turned(self):
        source = random.Random(6)
        for at in range(len(DATA)):
            for bit in range(8):
                wrong = reading.turned(DATA, at, bit)
                place = [one[0] for one in reading.frames(DATA) if one[0] <= at < one[4]][0]
                feed = Feed()
                if reading.feeding(wrong)[1][-1][2] is not None:
                    self.refused(feed, wrong, place)
                    self.refused(feed, [], place)
                    self.refused(feed, DATA, place)
                self.fed_by_words(wrong, [[byte] for byte in wrong])
                self.fed_by_words(wrong, some_pieces(wrong, source) + [[], []])

    def test_by_just_the_feeding_that_brings_the_byte(self):
        again = slowly.frame(129, 0, [0, 0])
        rows = (
            ([5], 1), ([132], 1), ([0, 128], 1), ([128, 128], 2), ([128, 0, 255], 3), ([129, 0, 0, 0, 200], 5),
            ([129, 0, 0, 0, 2, 128], 6), (again, 9), (again[:-1] + [again[-1] ^ 1], 9), (again[:7] + [129], 8),
            ([131, 0, 0, 0, 0, 1, 3], 7), ([130, 0, 0, 0, 0, 0, 0], 7), (slowly.frame(128, 0, [127]), 8),
            (slowly.frame(131, 0, [0] * 9), 16), (slowly.frame(128, 1, slowly.pressed([1])), 9),
        )
        for data, brings in rows:
            with self.subTest(data=data):
                feed = Feed()
                for byte in data[:brings - 1]:
                    feed.feed([byte])
                self.refused(feed, data[brings - 1:brings], 0)
                self.refused(feed, data[brings:], 0)
                self.refused(feed, [], 0)
                self.assertEqual((feed.marks(), feed.ended()), ([], False))
                self.refused(Feed(), data, 0)

    def test_frames_that_only_a_feed_refuses(self):
        block, other = slowly.frame(128, 0, slowly.pressed([1, 2])), slowly.frame(128, 1, slowly.pressed([3]))
        here = len(block)
        wrong_ends = [slowly.frame(131, 1, slowly.wide(0, 3) + slowly.wide(long, 3) + slowly.wide(size, 3))
                      for long, size in ((2, here + 15), (2, here + 17), (1, here + 16), (3, here + 16), (0, 0))]
        rows = [
            slowly.frame(128, 0, slowly.pressed([1, 2])), slowly.frame(128, 2, slowly.pressed([1, 2])),
            slowly.frame(130, 16383, [1, 1] + [0] * 6), slowly.frame(129, 1, [0, 1]), slowly.frame(129, 1, [0, 2]),
            slowly.frame(129, 1, [127, 127]),
        ] + wrong_ends
        for row in rows:
            with self.subTest(row=row):
                self.fed_by_words(block + row + other, [[byte] for byte in block + row + other])
                feed = Feed()
                self.refused(feed, block + row, here)
                self.assertEqual((feed.marks(), feed.ended()), ([1, 2], False))

    def test_nothing_is_told_behind_what_is_wrong_in_the_same_piece(self):
        again = slowly.frame(129, 0, [0, 0])
        for ahead in ([0], [127], [132], [128, 128], [129, 0, 200], again, again[:-1] + [again[-1] ^ 1], again[:3] + [255]):
            feed = Feed()
            self.refused(feed, ahead + DATA, 0)
            self.refused(feed, DATA, 0)
            self.assertEqual((feed.marks(), feed.ended()), ([], False))

    def test_an_again_of_an_again_or_of_a_knot(self):
        ahead = slowly.frame(128, 0, slowly.pressed([1])) + slowly.frame(129, 1, [0, 0])
        ahead += slowly.frame(130, 2, [1, 1] + [0] * 6)
        for named in (1, 2, 3, 4):
            feed = Feed()
            self.refused(feed, ahead + slowly.frame(129, 3, [0, named]), len(ahead))
            self.assertEqual(feed.marks(), [1, 1])
        feed = Feed()
        feed.feed(ahead + slowly.frame(129, 3, [0, 0]))
        self.assertEqual(feed.marks(), [1, 1, 1])

    def test_anything_behind_the_end(self):
        for text, data in ((TEXT, DATA), ([], slowly.container([], FOUR))):
            for more in ([0], [128], [131], [255], data, slowly.frame(129, 9, [0, 0])):
                feed = Feed()
                self.refused(feed, data + more, len(data))
                self.assertEqual((feed.marks(), feed.ended()), (text, True))
                feed = Feed()
                feed.feed(data)
                feed.feed([])
                self.refused(feed, more, len(data))
                self.refused(feed, [], len(data))
                self.assertEqual((feed.marks(), feed.ended()), (text, True))

    def test_what_knots_tell_is_not_looked_at(self):
        data = slowly.frame(130, 0, [0, 1] + [127] * 6)
        data += slowly.frame(131, 1, slowly.wide(99, 3) + slowly.wide(0, 3) + slowly.wide(len(data) + 16, 3))
        feed = Feed()
        feed.feed(data)
        self.assertEqual(state(feed), (0, True))

    def test_lists_handed_in_and_told_may_be_changed(self):
        feed, piece = Feed(), []
        for byte in DATA:
            piece[:] = [byte]
            feed.feed(piece)
            self.assertEqual(piece, [byte])
            feed.marks().append(9)
        piece.clear()
        feed.marks().clear()
        self.assertEqual((feed.marks(), feed.ended()), (TEXT, True))
        again = Feed()
        whole = list(DATA)
        again.feed(whole)
        self.assertEqual(whole, DATA)

    def test_two_feeds_know_nothing_of_one_another(self):
        one, other = Feed(), Feed()
        one.feed(DATA[:20])
        other.feed(DATA)
        one.feed(DATA[20:])
        self.assertEqual((one.marks(), other.marks()), (TEXT, TEXT))

    def test_some_thousand_bytes(self):
        text = some_text(6000, 256, 1)
        data = slowly.container(text, (1, 3, 48, 8))
        feed = Feed()
        for at in range(0, len(data), 5000):
            feed.feed(data[at:at + 5000])
        self.assertEqual((feed.marks(), feed.ended()), (text, True))

    def test_the_arguments_have_their_names(self):
        self.assertEqual(list(inspect.signature(Feed).parameters), [])
        self.assertEqual(list(inspect.signature(Feed.feed).parameters), ["self", "data"])


def some_pieces(data, source):
    cuts = sorted(source.randrange(len(data) + 1) for turn in range(6))
    return [data[a:b] for a, b in zip([0] + cuts, cuts + [len(data)])]


if __name__ == "__main__":
    unittest.main()

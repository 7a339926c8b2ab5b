import inspect
import random
import unittest

import reading
import slowly
from making import some_text
from plainly import RULES, done, some_deeds
from seekpress.container import container
from seekpress.makes import Makes
from seekpress.rescue import rescued
from seekpress.rule import Rule

FOUR = (4, 3, 12, 4)
# Blocks and knots that come again, beside others.
TEXT = [0] * 12 + [5, 1, 0, 0, 0, 9, 8, 1] + [0] * 6
DATA = slowly.container(TEXT, FOUR)


# The stretches of a block in all places where it comes, put together where they touch.
def stretches(text, block, four):
    found = []
    for (begin, end), other in zip(slowly.spans(text, four), slowly.blocks(text, four)):
        if other == block and found and found[-1][1] == begin:
            found[-1] = (found[-1][0], end)
        elif other == block:
            found.append((begin, end))
    return found


def lost_by(text, frame, four):
    return stretches(text, slowly.opened(frame[3]), four) if frame[1] == 128 else []


# All that isn't lost, as pieces.
def left(text, lost):
    edges = [0] + [place for pair in lost for place in pair] + [len(text)]
    return [(a, text[a:b]) for a, b in zip(edges[::2], edges[1::2]) if a < b]


def when_cut(text, data, end):
    frames = reading.frames(data)
    whole = [one for one in frames if one[4] <= end]
    place = ([one[0] for one in frames if one[0] < end < one[4]] + [end])[0]
    blocks = len([one for one in whole if one[1] in (128, 129)])
    return place, blocks


class WholeTest(unittest.TestCase):
    def test_as_it_is(self):
        for four in RULES:
            for below in (1, 2, 256):
                for many in (1, 2, 3, 12, 13, 70):
                    text = some_text(many, below, 4)
                    self.assertEqual(rescued(slowly.container(text, four)), (None, [(0, text)], []))

    def test_without_marks(self):
        self.assertEqual(rescued(slowly.container([], FOUR)), (None, [], []))

    def test_some_thousand_marks(self):
        text = some_text(6000, 256, 1)
        data = slowly.container(text, (1, 3, 48, 8))
        self.assertEqual(rescued(data), (None, [(0, text)], []))
        self.assertEqual(rescued(reading.turned(data, 3, 0))[2], [slowly.spans(text, (1, 3, 48, 8))[0]])

    def test_the_list_stays_and_the_lists_told_are_new(self):
        data = reading.turned(DATA, 5, 0)
        before = list(data)
        place, pieces, lost = rescued(data)
        self.assertEqual(data, before)
        for begin, marks in pieces:
            marks.append(5)
        pieces.clear()
        lost.clear()
        again = rescued(data=data)
        self.assertEqual((again[1], again[2]), (left(TEXT, again[2]), [(0, 12), (20, 26)]))
        data.clear()
        self.assertEqual(again[2], [(0, 12), (20, 26)])

    def test_the_kinds(self):
        told = rescued(reading.turned(DATA, 5, 0))
        self.assertEqual([type(thing) for thing in told], [int, list, list])
        self.assertEqual(type(told), tuple)
        self.assertEqual({type(one) for one in told[1] + told[2]}, {tuple})
        self.assertEqual(list(inspect.signature(rescued).parameters), ["data"])


class BrokenTest(unittest.TestCase):
    def each_bit(self, text, data, four, bits=range(8), places=None):
        for frame in reading.frames(data):
            lost = lost_by(text, frame, four)
            for at in range(frame[0], frame[4]):
                for bit in bits if places is None or at in places else ():
                    with self.subTest(at=at, bit=bit):
                        told = rescued(reading.turned(data, at, bit))
                        self.assertEqual(told, (frame[0], left(text, lost), lost))

    def each_cut(self, text, data, four):
        for end in range(len(data)):
            place, blocks = when_cut(text, data, end)
            marks = sum(slowly.blocks(text, four)[:blocks], [])
            with self.subTest(end=end):
                self.assertEqual(rescued(data[:end]), (place, [(0, marks)] if marks else [], [(len(marks), None)]))

    def each_frame_out(self, text, data, four):
        for frame in reading.frames(data)[:-1]:
            lost = lost_by(text, frame, four)
            with self.subTest(frame=frame[2]):
                told = rescued(data[:frame[0]] + data[frame[4]:])
                self.assertEqual(told, (frame[0], left(text, lost), lost))
        told = rescued(data[:-16])
        self.assertEqual(told, (len(data) - 16, [(0, text)] if text else [], [(len(text), None)]))

    def test_by_hand(self):
        self.assertEqual(rescued(reading.turned(DATA, 5, 0)),
                         (0, [(12, [5, 1, 0, 0, 0, 9, 8, 1])], [(0, 12), (20, 26)]))
        self.assertEqual(rescued([]), (0, [], [(0, None)]))
        self.assertEqual(rescued(DATA[:9]), (9, [(0, [0, 0, 0])], [(3, None)]))
        self.assertEqual(rescued(DATA[:9 + 9 + 4]), (18, [(0, [0] * 6)], [(6, None)]))

    def test_one_container_in_all_ways(self):
        self.each_bit(TEXT, DATA, FOUR)
        self.each_cut(TEXT, DATA, FOUR)
        self.each_frame_out(TEXT, DATA, FOUR)

    def test_without_marks_in_all_ways(self):
        data = slowly.container([], FOUR)
        self.each_bit([], data, FOUR)
        self.each_cut([], data, FOUR)
        self.each_frame_out([], data, FOUR)

    def test_containers_by_all_rules(self):
        for four in RULES:
            for below, many in ((1, 30), (2, 60), (256, 40), (3, 1), (256, 3)):
                text = some_text(many, below, 11)
                data = slowly.container(text, four)
                places = range(0, len(data), 1 if many < 4 else 5)
                with self.subTest(four=four, below=below, many=many):
                    self.each_bit(text, data, four, places=places)
                    self.each_cut(text, data, four)
                    self.each_frame_out(text, data, four)

    def test_behind_deeds(self):
        source = random.Random(2)
        for four in RULES[:3] + RULES[5:]:
            makes = Makes(Rule(*four))
            for deed, texts in some_deeds(f"{four} rescue", 2, 60, 25):
                for name, text in texts.items():
                    data = container(makes, name)
                    places = [source.randrange(len(data)) for turn in range(4)]
                    self.each_bit(text, data, four, places=places)
                    self.each_frame_out(text, data, four)
                done(deed, makes)
            for name in makes.names():
                self.each_cut(makes.text(name), container(makes, name), four)

    def test_blocks_of_sixteen_bytes_cut_or_whole_are_not_taken_for_the_end(self):
        text = some_text(70, 256, 1)
        four = (1, 7, 7, 8)
        data = slowly.container(text, four)
        self.assertIn(16, [one[4] - one[0] for one in reading.frames(data) if one[1] == 128])
        self.each_cut(text, data, four)
        self.each_bit(text, data, four, bits=(0, 7))

    def test_what_is_told_covers_the_text_and_does_not_touch(self):
        for at in range(0, len(DATA) - 16):
            place, pieces, lost = rescued(reading.turned(DATA, at, at % 8))
            spans = [(begin, begin + len(marks)) for begin, marks in pieces]
            for row in (spans, lost):
                self.assertEqual(row, sorted(row))
                self.assertTrue(all(a < b for a, b in row))
                self.assertTrue(all(one[1] < other[0] for one, other in zip(row, row[1:])))
            self.assertEqual(sorted(x for a, b in spans + lost for x in range(a, b)), list(range(len(TEXT))))


class OtherBytesTest(unittest.TestCase):
    def told(self, data):
        self.assertEqual(rescued(data)[0], reading.wrong_place(data))

    def test_any_bytes(self):
        source = random.Random(8)
        for turn in range(500):
            self.told([source.randrange(256) for at in range(source.randrange(40))])
            self.told([source.choice((0, 1, 2, 9, 128, 129, 130, 131)) for at in range(source.randrange(40))])

    def test_bytes_behind_the_end(self):
        for more in ([0], [128], [131], DATA, slowly.container([], FOUR)):
            self.told(DATA + more)
            self.assertEqual(rescued(DATA + more)[0], len(DATA))

    def test_more_than_one_wrong(self):
        source = random.Random(9)
        frames = reading.frames(DATA)
        for turn in range(800):
            data = DATA
            for one in range(source.randrange(2, 5)):
                data = reading.turned(data, source.randrange(len(data)), source.randrange(8))
            self.told(data)
            self.told(data[:source.randrange(len(data))])
            rows = [DATA[one[0]:one[4]] for one in frames]
            for one in range(2):
                rows.pop(source.randrange(len(rows)))
            self.told(sum(rows, []))
            source.shuffle(rows)
            self.told(sum(rows, []))

    def test_frames_that_are_right_in_themselves_alone(self):
        block = slowly.frame(128, 0, slowly.pressed([1, 2]))

        def ended(data, root, long, size):
            count = len(reading.frames(data))
            return data + slowly.frame(131, count, slowly.wide(root, 3) + slowly.wide(long, 3) + slowly.wide(size, 3))

        def knot(count, level, kids):
            return slowly.frame(130, count, [level, len(kids)] + [
                byte for place, long in kids for byte in slowly.wide(place, 3) + slowly.wide(long, 3)])

        here = len(block)
        rows = [
            ended([], 0, 5, 16), ended([], 0, 0, 99), ended(block, 0, 2, 0), ended(block, 900, 2, here + 16),
            ended(block + slowly.frame(129, 1, [5, 5]), 0, 2, 30), block + slowly.frame(129, 1, [0, 7]),
            ended(block + knot(1, 1, [(0, 3)]), here, 3, here + 31), ended(block + knot(1, 1, [(here, 2)]), here, 2, 0),
            ended(block + knot(1, 5, [(here, 2)] * 3), here, 6, 0), ended(block + knot(1, 0, [(0, 2)]), here, 2, 0),
            block + ended([], 0, 0, 16), ended(block, 0, 2, 2097151), ended(block, 2097151, 2097151, 2097151),
            ended(block + knot(1, 1, [(0, 0), (0, 2)]), here, 2, here + 37), ended(block, here, 2, here + 16),
            ended(block + slowly.frame(129, 1, [0, 0]), here, 4, here + 25), ended(block, 0, 2, here + 16),
            ended(block + knot(1, 1, [(here + 15, 2)]), here, 2, here + 31),
        ]
        for data in rows:
            with self.subTest(data=data):
                self.told(data)
                self.told(data[1:])
                self.told(data[:-1])
                for at in range(len(data)):
                    self.told(reading.turned(data, at, 0))
                    self.told(data[:at] + data[at + 1:])

    def test_an_end_in_the_midst_with_the_next_number_behind_it(self):
        two = slowly.frame(131, 0, [0] * 9) + slowly.frame(131, 1, [0] * 9)
        self.told(two)
        self.assertIsNone(rescued(two)[0])


if __name__ == "__main__":
    unittest.main()

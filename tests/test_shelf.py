import inspect
import random
import unittest

import reading
import slowly
from making import some_text
from plainly import RULES, done, some_containers, some_deeds
from seekpress.container import container
from seekpress.errors import Broken, NoPlace
from seekpress.makes import Makes
from seekpress.rule import Rule
from seekpress.shelf import Shelf

FOUR = (4, 3, 12, 4)
SIZES = (0, 1, 3, 12, 40)


class Fetch:
    """Tells bytes of a container, and notes for which it was asked."""

    def __init__(self, data):
        self.data = data
        self.asked = []

    def __call__(self, a, b):
        self.asked.append((a, b))
        return self.data[a:b]


def shelf_of(data):
    fetch = Fetch(data)
    shelf = Shelf(len(data), fetch)
    fetch.asked.clear()
    return shelf, fetch


def askings(data, a, b):
    ends = {one[0]: one[4] for one in reading.frames(data)}
    places = dict.fromkeys(place for place, begin, long, level in reading.along(data, a, b))
    return [pair for place in places for pair in ((place, place + 5), (place + 5, ends[place]))]


class SoughtTest(unittest.TestCase):
    def test_each_stretch_and_the_bytes_that_are_asked_for(self):
        for text, data in some_containers(SIZES, 7):
            shelf, fetch = shelf_of(data)
            self.assertEqual(shelf.long(), len(text))
            for a in range(len(text) + 1):
                for b in range(a, len(text) + 1):
                    fetch.asked.clear()
                    self.assertEqual(shelf.stretch(a, b), text[a:b])
                    self.assertEqual(fetch.asked, askings(data, a, b))

    def test_of_some_hundred_marks(self):
        source = random.Random(1)
        for four in RULES:
            text = some_text(700, 3, four)
            data = slowly.container(text, four)
            shelf, fetch = shelf_of(data)
            for turn in range(20):
                a, b = sorted((source.randrange(701), source.randrange(701)))
                fetch.asked.clear()
                self.assertEqual(shelf.stretch(a, b), text[a:b])
                self.assertEqual(fetch.asked, askings(data, a, b))

    def test_behind_deeds(self):
        makes = Makes(Rule(*FOUR))
        for deed, texts in some_deeds("shelf", 2, 60, 60):
            for name, text in texts.items():
                shelf, fetch = shelf_of(container(makes, name))
                self.assertEqual(shelf.stretch(0, shelf.long()), text)
            done(deed, makes)

    def test_at_its_making_it_asks_for_the_end_alone(self):
        for text, data in some_containers(SIZES, 7):
            fetch = Fetch(data)
            Shelf(len(data), fetch)
            self.assertEqual(fetch.asked, [(len(data) - 16, len(data))])

    def test_a_stretch_without_marks_asks_for_nothing(self):
        for text, data in some_containers(SIZES, 7):
            shelf, fetch = shelf_of(data)
            fetch.data = []
            for a in range(len(text) + 1):
                self.assertEqual(shelf.stretch(a, a), [])
            self.assertEqual((shelf.long(), fetch.asked), (len(text), []))

    def test_no_place(self):
        shelf, fetch = shelf_of(slowly.container([1, 2, 3], FOUR))
        things = (-1, 4, 10 ** 39, True, False, None, "", "0", [], [0], (0,), "a")
        for a, b in [(thing, 3) for thing in things] + [(0, thing) for thing in things] + [(2, 1), (4, 4), (3, 2)]:
            with self.subTest(a=a, b=b), self.assertRaises(NoPlace):
                shelf.stretch(a, b)
        self.assertEqual(fetch.asked, [])

    def test_lists_told_and_fetched_may_be_changed(self):
        text = some_text(60, 256, 1)
        data = slowly.container(text, FOUR)
        lists = []

        def fetch(a, b):
            for one in lists:
                one[:] = [131] * len(one)
            lists.append(data[a:b])
            return lists[-1]

        shelf = Shelf(len(data), fetch)
        shelf.stretch(0, 60).clear()
        self.assertEqual(shelf.stretch(0, 60), text)
        for one in lists:
            one.clear()
        self.assertEqual((shelf.long(), shelf.stretch(1, 59)), (60, text[1:59]))

    def test_the_arguments_have_their_names(self):
        data = slowly.container([1, 2], FOUR)
        shelf = Shelf(size=len(data), fetch=lambda a, b: data[a:b])
        self.assertEqual(shelf.stretch(a=1, b=2), [2])
        self.assertEqual(list(inspect.signature(Shelf.long).parameters), ["self"])


class EndTest(unittest.TestCase):
    def refused(self, size, fetch, place):
        with self.assertRaises(Broken) as caught:
            Shelf(size, fetch)
        self.assertEqual(caught.exception.place, place)

    def test_a_size_below_sixteen_asks_for_nothing(self):
        for size in range(16):
            fetch = Fetch(slowly.container([], FOUR))
            self.refused(size, fetch, 0)
            self.assertEqual(fetch.asked, [])

    def test_an_end_that_is_none(self):
        data = slowly.container([1, 2, 3], FOUR)
        place = len(data) - 16
        for at in range(place, len(data)):
            for bit in range(8):
                self.refused(len(data), Fetch(reading.turned(data, at, bit)), place)
        for end in range(16, len(data)):
            self.refused(end, Fetch(data[:end]), end - 16)
        block = slowly.frame(128, 0, slowly.pressed(some_text(7, 256, 1)))
        self.assertEqual(len(block), 16)
        self.refused(16, Fetch(block), 0)
        self.refused(16, Fetch([]), 0)

    def test_another_size(self):
        data = slowly.container([1, 2, 3], FOUR)
        place = len(data) - 16
        for size in (0, len(data) - 1, len(data) + 1, 2097151):
            wrong = reading.reframed(data, place, body=data[place + 5:place + 11] + slowly.wide(size, 3))
            self.refused(len(wrong), Fetch(wrong), place)
        self.refused(len(data) + 9, Fetch([0] * 9 + data), place + 9)

    def test_the_size_of_more_figures(self):
        end = slowly.frame(131, 0, [0] * 9)
        self.refused(10 ** 39, lambda a, b: list(end), 10 ** 39 - 16)

    def test_the_number_of_the_end_is_free(self):
        data = slowly.container([], FOUR)
        self.assertEqual(Shelf(16, Fetch(reading.reframed(data, 0, count=77))).long(), 0)


# The first frame along the text that is wrong in itself, or other than it is named.
def first_wrong(data, whole, a, b):
    frames = {one[0]: one for one in reading.frames(whole)}
    for place, begin, long, level in reading.along(whole, a, b):
        if data[place:frames[place][4]] != whole[place:frames[place][4]]:
            return place
    return None


class BrokenTest(unittest.TestCase):
    def refused(self, data, a, b, place):
        shelf = Shelf(len(data), Fetch(data))
        with self.assertRaises(Broken) as caught:
            shelf.stretch(a, b)
        self.assertEqual(caught.exception.place, place)

    def test_each_bit_turned(self):
        text = some_text(50, 3, 1)
        data = slowly.container(text, FOUR)
        stretches = ((0, 50), (20, 30), (0, 1), (49, 50))
        for at in range(len(data) - 16):
            for bit in range(8):
                wrong = reading.turned(data, at, bit)
                for a, b in stretches:
                    place = first_wrong(wrong, data, a, b)
                    if place is None:
                        self.assertEqual(Shelf(len(wrong), Fetch(wrong)).stretch(a, b), text[a:b])
                    else:
                        self.refused(wrong, a, b, place)

    def test_the_first_along_the_text_of_several(self):
        source = random.Random(3)
        text = some_text(200, 256, 1)
        data = slowly.container(text, FOUR)
        for turn in range(300):
            wrong = data
            for one in range(source.randrange(1, 5)):
                wrong = reading.turned(wrong, source.randrange(len(data) - 16), source.randrange(8))
            a, b = sorted((source.randrange(201), source.randrange(201)))
            place = first_wrong(wrong, data, a, b)
            if place is None:
                self.assertEqual(Shelf(len(wrong), Fetch(wrong)).stretch(a, b), text[a:b])
            else:
                self.refused(wrong, a, b, place)

    def test_a_block_of_an_earlier_knot_comes_ahead_of_a_later_knot(self):
        data = slowly.container(some_text(200, 256, 1), FOUR)
        frames = {one[0]: one for one in reading.frames(data)}
        knots = [kid for kid, long in reading.kids(frames[reading.end(data)[0]][3])]
        block = reading.along(data, 0, 1)[-1][0]
        wrong = reading.turned(reading.turned(data, knots[1] + 5, 0), block + 5, 0)
        self.refused(wrong, 0, 200, block)
        self.refused(wrong, 199, 200, knots[1]) if len(knots) == 2 else self.refused(wrong, 1, 200, block)

    def test_another_level(self):
        data = slowly.container(some_text(100, 256, 1), FOUR)
        for place, begin, long, level in reading.along(data, 0, 100):
            found = [one for one in reading.frames(data) if one[0] == place][0]
            if found[1] == 130 and level is not None:
                for other in (level - 1, level + 1, 127):
                    wrong = reading.reframed(data, place, body=[other] + found[3][1:])
                    self.refused(wrong, begin, begin + 1, place)

    def test_a_root_of_another_level_shows_at_its_first_kid(self):
        data = slowly.container(some_text(100, 256, 1), FOUR)
        root = reading.end(data)[0]
        found = [one for one in reading.frames(data) if one[0] == root][0]
        for level in (0, 1, found[3][0] + 1, 127):
            wrong = reading.reframed(data, root, body=[level] + found[3][1:])
            self.refused(wrong, 0, 100, reading.kids(found[3])[0][0])

    def test_another_long(self):
        data = slowly.container(some_text(100, 256, 1), FOUR)
        root = reading.end(data)[0]
        for place, kind, number, body, after in reading.frames(data):
            if kind == 130:
                for kid in range(body[1]):
                    wrong = reading.reframed(data, place, body=longer(body, kid))
                    begin = [one[1] for one in reading.along(data, 0, 100) if one[0] == place][0]
                    self.refused(wrong, begin, begin + 1, place)
        end = len(data) - 16
        for long in (1, 99, 101, 5000):
            told = slowly.wide(root, 3) + slowly.wide(long, 3) + slowly.wide(len(data), 3)
            self.refused(reading.reframed(data, end, body=told), 0, 1, root)

    def test_kids_that_are_longer_and_shorter_at_once(self):
        # The knot's long stays, so that only its kids have other longs than it tells.
        data = slowly.container([0, 0, 0, 5, 1, 0, 0, 0], FOUR)
        root, place = reading.end(data)[0], reading.kids(reading.frames(data)[2][3])
        self.assertEqual([long for kid, long in place], [3, 5])
        body = [1, 2] + slowly.wide(0, 3) + slowly.wide(4, 3) + slowly.wide(place[1][0], 3) + slowly.wide(4, 3)
        wrong = reading.reframed(data, root, body=body)
        self.refused(wrong, 0, 8, 0)
        self.refused(wrong, 3, 4, 0)
        self.refused(wrong, 4, 5, place[1][0])

    def test_a_root_that_is_none(self):
        data = slowly.container([1, 2, 3], FOUR)
        end = len(data) - 16
        for place in (0, 1, end - 3, end, end + 1, len(data), len(data) + 1, 2097151):
            told = slowly.wide(place, 3) + slowly.wide(3, 3) + slowly.wide(len(data), 3)
            wrong = reading.reframed(data, end, body=told)
            self.refused(wrong, 0, 3, place)

    def test_the_bytes_of_the_end_are_not_asked_for_again(self):
        data = slowly.container([1, 2, 3], FOUR)
        end = len(data) - 16
        for place in range(end - 20, len(data) + 3):
            told = slowly.wide(place, 3) + slowly.wide(3, 3) + slowly.wide(len(data), 3)
            shelf, fetch = shelf_of(reading.reframed(data, end, body=told))
            try:
                shelf.stretch(0, 3)
            except Broken:
                pass
            self.assertEqual([pair for pair in fetch.asked if pair[1] > end], [])
        for size in (0, 1, 9, 100, 16383):
            wrong = data[:end - 15] + [130, 0, 1] + slowly.wide(size, 2) + data[end - 10:]
            shelf, fetch = shelf_of(wrong)
            with self.assertRaises(Broken):
                shelf.stretch(0, 3)
            self.assertEqual([pair for pair in fetch.asked if pair[1] > end], [])

    def test_other_kinds_where_a_knot_or_a_block_is_due(self):
        data = slowly.container([0] * 12, FOUR)
        frames = reading.frames(data)
        knot, root = frames[4], frames[5]
        for place in (frames[1][0], root[0], len(data) - 16):
            body = [1, 2] + (slowly.wide(place, 3) + slowly.wide(3, 3)) * 2
            self.refused(reading.reframed(data, knot[0], body=body), 0, 12, place)
        # A block where a knot is due, of the long that is told.
        body = [2, 2] + (slowly.wide(0, 3) + slowly.wide(3, 3)) + slowly.wide(knot[0], 3) + slowly.wide(9, 3)
        self.refused(reading.reframed(data, root[0], body=body), 0, 12, 0)
        told = slowly.wide(0, 3) + slowly.wide(3, 3) + slowly.wide(len(data), 3)
        self.refused(reading.reframed(data, len(data) - 16, body=told), 0, 3, 0)

    def test_behind_a_head_that_is_none_no_rest_is_asked_for(self):
        data = slowly.container([0] * 6, FOUR)
        root = reading.end(data)[0]
        for at, byte in ((0, 0), (0, 127), (0, 129), (0, 131), (0, 132), (1, 128), (2, 255), (3, 128), (4, 200)):
            shelf, fetch = shelf_of(data[:root + at] + [byte] + data[root + at + 1:])
            with self.assertRaises(Broken):
                shelf.stretch(0, 6)
            self.assertEqual(fetch.asked, [(root, root + 5)])

    def test_bytes_that_lack(self):
        data = slowly.container([0] * 6, FOUR)
        root = reading.end(data)[0]
        for most in (0, 1, 4, 5, 9):
            shelf = Shelf(len(data), lambda a, b: data[a:b] if a >= len(data) - 16 else data[a:min(b, root + most)])
            with self.assertRaises(Broken) as caught:
                shelf.stretch(0, 6)
            self.assertEqual(caught.exception.place, root)

    def test_kids_without_marks_are_not_fetched(self):
        block = slowly.frame(128, 0, slowly.pressed([1, 2]))
        kids = slowly.wide(900, 3) + slowly.wide(0, 3) + slowly.wide(0, 3) + slowly.wide(2, 3) + slowly.wide(901, 3)
        data = block + slowly.frame(130, 1, [1, 3] + kids + slowly.wide(0, 3))
        data += slowly.frame(131, 2, slowly.wide(len(block), 3) + slowly.wide(2, 3) + slowly.wide(len(data) + 16, 3))
        self.assertEqual(Shelf(len(data), Fetch(data)).stretch(0, 2), [1, 2])

    def test_a_stretch_behind_a_refused_one(self):
        text = some_text(60, 256, 1)
        data = slowly.container(text, FOUR)
        fetch = Fetch(reading.turned(data, 5, 0))
        shelf = Shelf(len(data), fetch)
        with self.assertRaises(Broken):
            shelf.stretch(0, 60)
        fetch.data = data
        self.assertEqual(shelf.stretch(0, 60), text)


def longer(body, kid):
    at = 2 + 6 * kid + 3
    long = reading.number(body[at:at + 3]) + 1
    return body[:at] + slowly.wide(long, 3) + body[at + 3:]


if __name__ == "__main__":
    unittest.main()

import random
import unittest

from seekpress.checks import check


def summed(data):
    total = 0
    for at in range(len(data)):
        total += data[at] * (at + 1)
    while total >= 16381:
        total -= 16381
    return total


def some_bytes(many, seed):
    source = random.Random(seed)
    return [source.randrange(256) for at in range(many)]


class CheckTest(unittest.TestCase):
    def test_no_bytes(self):
        self.assertEqual(check([]), 0)

    def test_one_byte_is_its_own_check(self):
        for byte in range(256):
            self.assertEqual(check([byte]), byte)

    def test_places_count_from_one(self):
        self.assertEqual(check([0, 1]), 2)
        self.assertEqual(check([1, 1, 1]), 6)
        self.assertEqual(check([10, 20, 30]), 140)

    def test_the_rest_is_by_16381(self):
        # The last byte, 63, stands at the place 260: 16380 together.
        data = [0] * 259 + [63]
        self.assertEqual(check(data), 16380)
        self.assertEqual(check([1] + data[1:]), 0)
        self.assertEqual(check([2] + data[1:]), 1)
        self.assertEqual(check([255] * 6000), 255 * 6000 * 6001 // 2 % 16381)

    def test_some_hundreds_of_bytes(self):
        for many in (2, 3, 100, 254, 255, 256, 257, 300, 700):
            data = some_bytes(many, many)
            with self.subTest(many):
                self.assertEqual(check(data), summed(data))

    def test_every_other_byte_at_one_place_gives_another_check(self):
        data = some_bytes(300, 1)
        told = check(data)
        for at in (0, 1, 2, 149, 254, 255, 298, 299):
            for byte in range(256):
                changed = data[:at] + [byte] + data[at + 1:]
                self.assertEqual(check(changed) == told, byte == data[at])

    def test_another_byte_at_each_place_gives_another_check(self):
        data = some_bytes(6000, 2)
        told = check(data)
        for at in range(0, 6000, 7):
            changed = data[:at] + [255 - data[at]] + data[at + 1:]
            self.assertNotEqual(check(changed), told)

    def test_unlike_neighbours_exchanged_give_another_check(self):
        data = some_bytes(400, 3) + [0, 255, 0, 128, 127]
        told = check(data)
        for at in range(len(data) - 1):
            swapped = data[:at] + [data[at + 1], data[at]] + data[at + 2:]
            self.assertEqual(check(swapped) == told, data[at] == data[at + 1])

    def test_the_list_handed_in_stays(self):
        data = [3, 2, 1]
        check(data)
        self.assertEqual(data, [3, 2, 1])

    def test_the_argument_has_its_name(self):
        self.assertEqual(check(data=[7]), 7)


if __name__ == "__main__":
    unittest.main()

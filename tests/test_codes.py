import itertools
import random
import unittest
from fractions import Fraction

import slowly
from seekpress.codes import codes_of
from seekpress.errors import NoCode
from seekpress.lengths import lengths_of

THIRTY_NINE = 10 ** 39 - 1
FORTY = 10 ** 40 - 1


def numbered(lengths):
    return list(enumerate(lengths))


def fits(lengths):
    return sum(Fraction(1, 2 ** length) for length in lengths) <= 1


def some_lengths():
    source = random.Random(21)
    found = []
    for many in list(range(1, 30)) + [60, 200]:
        symbols = sorted(source.sample(range(4 * many), many))
        top = source.choice((1, 10, 10 ** 4))
        found.append(lengths_of([(symbol, source.randrange(1, top + 1)) for symbol in symbols]))
        found.append([(symbol, source.randrange(8, 61)) for symbol in symbols])
    return found + [numbered(list(range(1, 61)) + [60]), numbered([60] * 6000)]


class CodesTest(unittest.TestCase):
    def refused(self, lengths):
        before = list(lengths)
        with self.subTest(lengths=lengths[:9]):
            with self.assertRaises(NoCode):
                codes_of(lengths)
            self.assertEqual(lengths, before)

    def test_one_symbol_is_noughts(self):
        for symbol in (0, 1, 300, FORTY):
            for length in (1, 2, 7, 59, 60):
                self.assertEqual(codes_of([(symbol, length)]), [(symbol, [0] * length)])

    def test_like_lengths(self):
        self.assertEqual(codes_of([(3, 1), (5, 1)]), [(3, [0]), (5, [1])])
        self.assertEqual(
            codes_of(numbered([2, 2, 2, 2])), [(0, [0, 0]), (1, [0, 1]), (2, [1, 0]), (3, [1, 1])]
        )
        self.assertEqual(codes_of(numbered([2, 2, 2])), [(0, [0, 0]), (1, [0, 1]), (2, [1, 0])])

    def test_unlike_lengths(self):
        self.assertEqual(codes_of(numbered([1, 2, 2])), [(0, [0]), (1, [1, 0]), (2, [1, 1])])
        self.assertEqual(codes_of(numbered([2, 2, 1])), [(0, [1, 0]), (1, [1, 1]), (2, [0])])
        self.assertEqual(
            codes_of(numbered([3, 1, 3, 2])), [(0, [1, 1, 0]), (1, [0]), (2, [1, 1, 1]), (3, [1, 0])]
        )
        # Lengths that leave room: two longer at once.
        self.assertEqual(codes_of(numbered([1, 3])), [(0, [0]), (1, [1, 0, 0])])
        self.assertEqual(codes_of(numbered([4, 2, 4])), [(0, [0, 1, 0, 0]), (1, [0, 0]), (2, [0, 1, 0, 1])])

    def test_a_length_of_sixty(self):
        self.assertEqual(codes_of([(0, 1), (1, 60)]), [(0, [0]), (1, [1] + [0] * 59)])
        lengths = numbered(list(range(1, 61)) + [60])
        wanted = [(at, [1] * at + [0]) for at in range(60)] + [(60, [1] * 60)]
        self.assertEqual(codes_of(lengths), wanted)

    def test_against_the_words(self):
        for lengths in some_lengths():
            with self.subTest(lengths=lengths[:9]):
                self.assertEqual(codes_of(lengths), slowly.codes(lengths))

    def test_all_small_lengths_are_told_or_refused(self):
        for many in range(1, 6):
            for lengths in itertools.product((1, 2, 3, 4), repeat=many):
                if fits(lengths):
                    self.assertEqual(codes_of(numbered(lengths)), slowly.codes(numbered(lengths)))
                else:
                    self.refused(numbered(lengths))

    def test_none_is_the_beginning_of_another(self):
        for lengths in some_lengths():
            codes = sorted(bits for symbol, bits in codes_of(lengths))
            # Sorted, a beginning stands right ahead of one that it begins.
            for one, other in zip(codes, codes[1:]):
                self.assertNotEqual(other[:len(one)], one)

    def test_told_in_the_order_of_the_symbols_with_their_lengths(self):
        for lengths in some_lengths():
            codes = codes_of(lengths)
            self.assertEqual([(symbol, len(bits)) for symbol, bits in codes], lengths)
            self.assertTrue(all(isinstance(pair, tuple) and isinstance(pair[1], list) for pair in codes))

    def test_no_symbols(self):
        self.refused([])

    def test_symbols_below_nought(self):
        for symbol in (-1, -2, -FORTY):
            self.refused([(symbol, 1)])
            self.refused([(symbol, 2), (0, 2)])
            self.refused([(symbol, 2), (5, 2), (6, 2)])

    def test_symbols_that_do_not_rise(self):
        self.refused([(1, 1), (0, 1)])
        self.refused([(1, 1), (1, 1)])
        self.refused([(0, 2), (5, 2), (5, 2)])
        self.refused([(0, 2), (5, 2), (4, 2), (9, 2)])
        self.refused([(0, 2), (FORTY, 2), (FORTY, 2)])
        self.refused([(0, 2), (FORTY, 2), (FORTY - 1, 2)])
        self.assertEqual(codes_of([(0, 1), (FORTY, 1)]), [(0, [0]), (FORTY, [1])])

    def test_lengths_out_of_bounds(self):
        for length in (0, -1, -60, 61, 62, 1000, THIRTY_NINE, FORTY, -THIRTY_NINE):
            self.refused([(0, length)])
            self.refused([(0, length), (1, 2)])
            self.refused([(0, 2), (1, 2), (2, length)])

    def test_lengths_that_just_do_not_fit(self):
        self.refused(numbered([1, 1, 1]))
        self.refused(numbered([1, 1, 60]))
        self.refused(numbered([60, 1, 1]))
        self.refused(numbered([2, 2, 2, 2, 60]))
        self.refused(numbered(list(range(1, 61)) + [60, 60]))
        self.refused(numbered([12] * 4097))
        self.refused(numbered([12] * 4096 + [60]))
        self.assertEqual(len(codes_of(numbered([12] * 4096))), 4096)
        for many in range(1, 12):
            full = list(range(1, many + 1)) + [many]
            self.assertEqual(len(codes_of(numbered(full))), many + 1)
            self.refused(numbered(full + [60]))

    def test_the_list_handed_in_stays_and_the_lists_told_are_new(self):
        for lengths in ([(4, 2)], [(1, 1), (3, 1)], numbered([3, 1, 3, 2])):
            before = list(lengths)
            told, again = codes_of(lengths), codes_of(lengths)
            for symbol, bits in told:
                bits.append(1)
                bits[0] = 1 - bits[0]
            told.append((99, [1]))
            self.assertEqual(lengths, before)
            self.assertEqual(codes_of(lengths), again)
            lengths.append((90, 60))
            self.assertEqual(codes_of(before), again)

    def test_the_argument_has_its_name(self):
        self.assertEqual(codes_of(lengths=[(0, 1)]), [(0, [0])])


if __name__ == "__main__":
    unittest.main()

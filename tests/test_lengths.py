import itertools
import random
import unittest
from fractions import Fraction

import slowly
from seekpress.lengths import lengths_of, merges_of

THIRTY = 10 ** 30 - 1
FORTY = 10 ** 40 - 1


def counted(counts):
    return list(enumerate(counts))


def some_counts():
    source = random.Random(11)
    found = []
    for many in list(range(1, 40)) + [60, 100]:
        for top in (1, 2, 5, 100, THIRTY):
            symbols = sorted(source.sample(range(3 * many), many))
            found.append([(symbol, source.randrange(1, top + 1)) for symbol in symbols])
    return found + [counted([1, 1, 2, 3, 5, 8, 13, 21, 34, 55]), counted([2 ** at for at in range(50)])]


def summed(counts, lengths):
    return sum(count * length for count, length in zip(counts, lengths))


def halves_of(lengths):
    return sum(Fraction(1, 2 ** length) for length in lengths)


class MergesTest(unittest.TestCase):
    def test_one_symbol_alone_has_no_sum_and_the_length_one(self):
        for symbol in (0, 1, 255, 300, FORTY):
            for count in (1, 2, THIRTY, FORTY):
                self.assertEqual(merges_of([(symbol, count)]), [])
                self.assertEqual(lengths_of([(symbol, count)]), [(symbol, 1)])

    def test_two_symbols(self):
        for one, other in ((1, 1), (1, 2), (2, 1), (5, THIRTY), (FORTY, FORTY)):
            self.assertEqual(merges_of([(3, one), (9, other)]), [one + other])
            self.assertEqual(lengths_of([(3, one), (9, other)]), [(3, 1), (9, 1)])

    def test_three_symbols(self):
        self.assertEqual(merges_of(counted([1, 1, 1])), [2, 3])
        self.assertEqual(lengths_of(counted([1, 1, 1])), [(0, 2), (1, 2), (2, 1)])
        self.assertEqual(lengths_of(counted([5, 1, 1])), [(0, 1), (1, 2), (2, 2)])
        self.assertEqual(lengths_of(counted([1, 5, 1])), [(0, 2), (1, 1), (2, 2)])

    def test_of_like_counts_the_ones_that_came_first_and_the_sum_comes_last(self):
        # The sum 2 comes behind the symbols 2 and 2, so these two are put together next.
        self.assertEqual(merges_of(counted([1, 1, 2, 2])), [2, 4, 6])
        self.assertEqual(lengths_of(counted([1, 1, 2, 2])), [(0, 2), (1, 2), (2, 2), (3, 2)])
        # With one 2 alone it goes with the sum.
        self.assertEqual(merges_of(counted([1, 1, 2, 4])), [2, 4, 8])
        self.assertEqual(lengths_of(counted([1, 1, 2, 4])), [(0, 3), (1, 3), (2, 2), (3, 1)])
        # Here the symbols' order tells which one is left for the shorter code.
        self.assertEqual(lengths_of(counted([2, 2, 2])), [(0, 2), (1, 2), (2, 1)])
        self.assertEqual(lengths_of(counted([2, 1, 2, 1])), [(0, 2), (1, 2), (2, 2), (3, 2)])
        self.assertEqual(lengths_of(counted([1, 1, 1, 1, 1])), [(0, 3), (1, 3), (2, 2), (3, 2), (4, 2)])

    def test_of_like_sums_the_one_made_first(self):
        self.assertEqual(merges_of(counted([1] * 6)), [2, 2, 2, 4, 6])
        self.assertEqual(
            lengths_of(counted([1] * 6)), [(0, 3), (1, 3), (2, 3), (3, 3), (4, 2), (5, 2)]
        )

    def test_counts_that_rise_fast(self):
        self.assertEqual(merges_of(counted([1, 1, 2, 3, 5, 8])), [2, 4, 7, 12, 20])
        self.assertEqual(lengths_of(counted([1, 2, 4, 8, 16])), [(0, 4), (1, 4), (2, 3), (3, 2), (4, 1)])

    def test_symbols_near_and_far_do_not_matter(self):
        counts = [3, 1, 4, 1, 5, 9, 2, 6]
        near = lengths_of(counted(counts))
        far = [0, 7, 255, 256, 300, 10 ** 9, THIRTY, FORTY]
        self.assertEqual(lengths_of(list(zip(far, counts))), list(zip(far, [length for symbol, length in near])))
        self.assertEqual(merges_of(list(zip(far, counts))), merges_of(counted(counts)))

    def test_against_a_slow_merging(self):
        for counts in some_counts():
            with self.subTest(counts=counts):
                sums, lengths = slowly.merging(counts)
                self.assertEqual(merges_of(counts), sums)
                self.assertEqual(lengths_of(counts), lengths)

    def test_all_small_counts_against_a_slow_merging(self):
        for many in range(1, 6):
            for counts in itertools.product((1, 2, 3, 4), repeat=many):
                sums, lengths = slowly.merging(counted(counts))
                self.assertEqual(merges_of(counted(counts)), sums)
                self.assertEqual(lengths_of(counted(counts)), lengths)

    def test_each_count_times_its_length_is_the_sum_of_the_merges(self):
        for counts in some_counts():
            if len(counts) > 1:
                lengths = [length for symbol, length in lengths_of(counts)]
                self.assertEqual(summed([count for symbol, count in counts], lengths), sum(merges_of(counts)))

    def test_the_halves_come_to_one(self):
        for counts in some_counts():
            lengths = [length for symbol, length in lengths_of(counts)]
            self.assertEqual(halves_of(lengths), 1 if len(counts) > 1 else Fraction(1, 2))

    def test_no_lengths_that_fit_make_the_sum_less(self):
        source = random.Random(2)
        for many in range(1, 6):
            fitting = [lengths for lengths in itertools.product(range(1, many + 1), repeat=many)
                       if halves_of(lengths) <= 1]
            for turn in range(12):
                counts = [source.randrange(1, source.choice((2, 4, 20, THIRTY))) for at in range(many)]
                told = [length for symbol, length in lengths_of(counted(counts))]
                self.assertIn(tuple(told), fitting)
                self.assertEqual(summed(counts, told), min(summed(counts, lengths) for lengths in fitting))

    def test_six_thousand_symbols(self):
        source = random.Random(8)
        counts = [(2 * symbol, source.randrange(1, THIRTY)) for symbol in range(6000)]
        lengths = [length for symbol, length in lengths_of(counts)]
        self.assertEqual(summed([count for symbol, count in counts], lengths), sum(merges_of(counts)))
        self.assertEqual(halves_of(lengths), 1)
        like = [length for symbol, length in lengths_of(counted([1] * 4096))]
        self.assertEqual(like, [12] * 4096)

    def test_the_list_handed_in_stays_and_the_lists_told_are_new(self):
        for counts in ([(4, 2)], [(1, 5), (3, 5)], counted([3, 1, 2, 1])):
            before = list(counts)
            sums, lengths = merges_of(counts), lengths_of(counts)
            again = (merges_of(counts), lengths_of(counts))
            sums.append(1)
            lengths.append((9, 9))
            self.assertEqual(counts, before)
            self.assertEqual((merges_of(counts), lengths_of(counts)), again)
            counts.append((90, 1))
            self.assertEqual((merges_of(before), lengths_of(before)), again)

    def test_lengths_are_tuples_in_the_order_of_the_symbols(self):
        for counts in some_counts():
            told = lengths_of(counts)
            self.assertEqual([symbol for symbol, length in told], [symbol for symbol, count in counts])
            self.assertTrue(all(isinstance(pair, tuple) for pair in told))

    def test_the_argument_has_its_name(self):
        self.assertEqual(merges_of(counts=[(0, 1)]), [])
        self.assertEqual(lengths_of(counts=[(0, 1)]), [(0, 1)])


if __name__ == "__main__":
    unittest.main()

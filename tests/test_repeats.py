import random
import unittest

import slowly
from making import some_text
from seekpress.errors import NoRepeat
from seekpress.repeats import laid_out, tokens_of

FORTY = 10 ** 40 - 1


def some_texts():
    texts = [some_text(many, below, seed) for many in range(91) for below in (2, 3, 6, 256) for seed in range(2)]
    return texts + [[9] * 90, [1, 2] * 45, [1, 2, 3] * 30, list(range(90)), [1] * 30 + [2] + [1] * 59]


class TokensTest(unittest.TestCase):
    def test_no_marks_and_fewer_than_three(self):
        for text in ([], [5], [5, 5], [0, 255]):
            self.assertEqual(tokens_of(text), text)

    def test_one_mark_many_times_reaches_into_itself(self):
        self.assertEqual(tokens_of([7] * 3), [7, 7, 7])
        for many in range(4, 91):
            self.assertEqual(tokens_of([7] * many), [7, (1, many - 1)])

    def test_two_and_three_marks_in_turn_reach_into_themselves(self):
        self.assertEqual(tokens_of([1, 2, 1, 2, 1]), [1, 2, (2, 3)])
        self.assertEqual(tokens_of([1, 2] * 10), [1, 2, (2, 18)])
        self.assertEqual(tokens_of([1, 2, 3] * 10), [1, 2, 3, (3, 27)])

    def test_a_repeat_of_three_is_one_and_a_repeat_of_two_is_none(self):
        self.assertEqual(tokens_of([1, 2, 3, 9, 1, 2, 3]), [1, 2, 3, 9, (4, 3)])
        self.assertEqual(tokens_of([1, 2, 3, 9, 1, 2, 3, 8]), [1, 2, 3, 9, (4, 3), 8])
        self.assertEqual(tokens_of([1, 2, 9, 1, 2]), [1, 2, 9, 1, 2])
        self.assertEqual(tokens_of([1, 2, 9, 1, 2, 8]), [1, 2, 9, 1, 2, 8])

    def test_of_like_longs_the_least_back(self):
        self.assertEqual(tokens_of([1, 2, 3, 8, 1, 2, 3, 9, 1, 2, 3]), [1, 2, 3, 8, (4, 3), 9, (4, 3)])
        text = [1, 2, 3, 5, 1, 2, 3, 6, 1, 2, 3, 7, 1, 2, 3, 8]
        self.assertEqual(tokens_of(text), [1, 2, 3, 5, (4, 3), 6, (4, 3), 7, (4, 3), 8])

    def test_the_greater_long_comes_ahead_of_the_lesser_back(self):
        text = [1, 2, 3, 4, 9, 1, 2, 3, 8, 1, 2, 3, 4]
        self.assertEqual(tokens_of(text), [1, 2, 3, 4, 9, (5, 3), 8, (9, 4)])

    def test_the_first_place_takes_its_greatest_though_a_later_one_had_a_greater(self):
        text = [1, 2, 3, 9, 2, 3, 4, 5, 6, 7, 1, 2, 3, 4, 5, 6, 7]
        self.assertEqual(tokens_of(text), [1, 2, 3, 9, 2, 3, 4, 5, 6, 7, (10, 3), (7, 4)])

    def test_against_a_slow_search(self):
        for text in some_texts():
            with self.subTest(text=text):
                self.assertEqual(tokens_of(text), slowly.tokens(text))

    def test_all_texts_of_two_marks_up_to_nine(self):
        for many in range(10):
            for number in range(2 ** many):
                text = [number >> at & 1 for at in range(many)]
                self.assertEqual(tokens_of(text), slowly.tokens(text))

    def test_tokens_are_marks_and_tuples_of_two(self):
        for text in some_texts():
            for token in tokens_of(text):
                if not isinstance(token, int):
                    self.assertIsInstance(token, tuple)
                    self.assertEqual(len(token), 2)

    def test_six_thousand_marks(self):
        self.assertEqual(tokens_of([3] * 6000), [3, (1, 5999)])
        self.assertEqual(tokens_of([1] * 3000 + [2] + [1] * 2999), [1, (1, 2999), 2, (3000, 2999)])
        for below in (2, 256):
            text = some_text(6000, below, 4)
            self.assertEqual(slowly.text_of(tokens_of(text)), text)

    def test_the_list_handed_in_stays_and_the_list_told_is_new(self):
        for text in ([], [1, 2], [4] * 9, [1, 2, 3, 9, 1, 2, 3]):
            before = list(text)
            told, again = tokens_of(text), tokens_of(text)
            told.append(5)
            told[0] = (1, 3)
            self.assertEqual(text, before)
            self.assertEqual(tokens_of(text), again)
            text.append(5)
            self.assertEqual(again, tokens_of(before))

    def test_the_argument_has_its_name(self):
        self.assertEqual(tokens_of(text=[1]), [1])


class LaidOutTest(unittest.TestCase):
    def refused(self, tokens):
        before = list(tokens)
        with self.subTest(tokens=tokens):
            with self.assertRaises(NoRepeat):
                laid_out(tokens)
            self.assertEqual(tokens, before)

    def refused_amid_good_ones(self, ahead, token):
        for behind in ([], [5], [(1, 3)], [5, (2, 4), 6]):
            self.refused(ahead + [token] + behind)

    def test_no_tokens_and_marks_alone(self):
        for tokens in ([], [0], [255], [1, 2, 3], list(range(256))):
            self.assertEqual(laid_out(tokens), tokens)

    def test_repeats(self):
        self.assertEqual(laid_out([1, 2, 3, (3, 3)]), [1, 2, 3, 1, 2, 3])
        self.assertEqual(laid_out([1, 2, 3, 4, (3, 3), 9]), [1, 2, 3, 4, 2, 3, 4, 9])
        self.assertEqual(laid_out([1, 2, 3, 4, (4, 3), (2, 3)]), [1, 2, 3, 4, 1, 2, 3, 2, 3, 2])

    def test_repeats_that_reach_into_themselves(self):
        self.assertEqual(laid_out([7, (1, 3)]), [7] * 4)
        self.assertEqual(laid_out([7, (1, 89)]), [7] * 90)
        self.assertEqual(laid_out([1, 2, (2, 3)]), [1, 2, 1, 2, 1])
        self.assertEqual(laid_out([9, 1, 2, (2, 7), 5]), [9, 1, 2, 1, 2, 1, 2, 1, 2, 1, 5])
        self.assertEqual(laid_out([1, 2, 3, (3, 8)]), [1, 2, 3, 1, 2, 3, 1, 2, 3, 1, 2])

    def test_tokens_of_a_text_give_the_text(self):
        for text in some_texts():
            self.assertEqual(laid_out(tokens_of(text)), text)

    def test_tokens_that_no_text_has_are_laid_out_too(self):
        source = random.Random(5)
        for turn in range(300):
            tokens, many = [source.randrange(256)], 1
            for step in range(20):
                if source.randrange(2):
                    tokens.append((source.randrange(1, many + 1), source.randrange(3, 9)))
                    many += tokens[-1][1]
                else:
                    tokens.append(source.randrange(3))
                    many += 1
            self.assertEqual(laid_out(tokens), slowly.text_of(tokens))

    def test_up_to_six_thousand_marks(self):
        self.assertEqual(laid_out([3, (1, 5999)]), [3] * 6000)
        self.assertEqual(laid_out([1, 2, (2, 5998)]), [1, 2] * 3000)
        self.assertEqual(laid_out([5] * 6000), [5] * 6000)

    def test_numbers_that_are_no_marks(self):
        for number in (-1, -2, -255, 256, 257, 300, 1000, FORTY, -FORTY):
            for ahead in ([], [1], [1, 2, (1, 3)]):
                self.refused(ahead + [number])
                self.refused(ahead + [number, 5])
                self.refused(ahead + [number, number])

    def test_backs_that_reach_nothing(self):
        self.refused([(1, 3)])
        for back in (0, -1, -3, -FORTY, 4, 5, 256, FORTY):
            self.refused_amid_good_ones([1, 2, 3], (back, 3))
        for back in (0, -1, 7, 8, FORTY):
            self.refused_amid_good_ones([1, 2, 3, (2, 3)], (back, 4))
        self.assertEqual(laid_out([1, 2, 3, (2, 3), (6, 4)]), [1, 2, 3, 2, 3, 2, 1, 2, 3, 2])

    def test_a_back_counts_the_marks_laid_out_and_not_the_tokens(self):
        self.assertEqual(laid_out([1, (1, 3), (4, 3)]), [1] * 7)
        self.refused([1, (1, 3), (5, 3)])

    def test_longs_below_three(self):
        for long in (2, 1, 0, -1, -3, -FORTY):
            self.refused_amid_good_ones([1, 2, 3], (1, long))
            self.refused_amid_good_ones([1, 2, 3], (3, long))
            self.refused_amid_good_ones([1, 2, 3], (4, long))

    def test_the_list_handed_in_stays_and_the_list_told_is_new(self):
        for tokens in ([], [5, 6], [5, (1, 4)]):
            before = list(tokens)
            told, again = laid_out(tokens), laid_out(tokens)
            told.append(3)
            self.assertEqual(tokens, before)
            self.assertEqual(laid_out(tokens), again)
            tokens.append(9)
            self.assertEqual(again, laid_out(before))

    def test_the_argument_has_its_name(self):
        self.assertEqual(laid_out(tokens=[1]), [1])


if __name__ == "__main__":
    unittest.main()

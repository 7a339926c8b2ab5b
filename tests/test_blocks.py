import itertools
import random
import unittest
from fractions import Fraction

import slowly
from making import some_text
from seekpress.blocks import opened, packed, plain, pressed
from seekpress.errors import NoBlock

THIRTY = 10 ** 30 - 1
FORTY = 10 ** 40 - 1


def some_blocks():
    found = [some_text(many, below, seed) for many in (1, 2, 3, 7, 20, 47, 48) for below in (1, 2, 3, 6, 40, 256)
             for seed in range(4)]
    found += [some_text(many, below, 9) for many in range(1, 49) for below in (2, 256)]
    found += [[mark] * many for mark in (0, 1, 127, 128, 255) for many in (1, 2, 3, 4, 5, 24, 47, 48)]
    found += [[1, 2] * 24, [1, 2, 3] * 16, [250, 5, 77, 1] * 12, list(range(48)), list(range(255, 207, -1))]
    # A repeat of each long, each reaching back as far as it can.
    return found + [list(range(100, 100 + long)) + [3] * (48 - 2 * long) + list(range(100, 100 + long))
                    for long in range(3, 25)]


# Bytes that a reader could take for a block's, though no block, or not this one, is pressed to them.
def other_writings(block, source):
    tokens = slowly.tokens(block)
    many = len(block)
    lengths = slowly.lengths_of_tokens(tokens)
    found = [slowly.written_bits(many, [(one, length + 1) for one, length in lengths], tokens)]
    found.append(slowly.written_bits(many, slowly.lengths_of_tokens(block), block))
    spare = [(one, length + 1) for one, length in lengths] + [(lengths[-1][0] + 1 + source.randrange(9), 1)]
    found.append(slowly.written_bits(many, spare, tokens))
    for more in (-1, 1, 60):
        if many + more > 0:
            found.append(slowly.written_bits(many + more, lengths, tokens))
    return [slowly.laid(bits) for bits in found]


class WritingTest(unittest.TestCase):
    def test_plain_by_hand(self):
        # 0, 1, and the mark: ten bits.
        self.assertEqual(plain([0]), slowly.laid("0" + "1" + "00000000"))
        self.assertEqual(plain([255]), [63, 112])
        self.assertEqual(plain([1, 2]), slowly.laid("0" + "010" + "00000001" + "00000010"))
        self.assertEqual(plain([128, 0, 255]), slowly.laid("0" + "011" + "10000000" + "00000000" + "11111111"))

    def test_packed_by_hand(self):
        # One symbol, 0 left out, length 1, and its code.
        self.assertEqual(packed([0]), slowly.laid("1" + "1" + "1" + "1" + "1" + "0"))
        self.assertEqual(packed([0]), [124])
        self.assertEqual(packed([2]), slowly.laid("1" + "1" + "1" + "011" + "1" + "0"))
        # Two symbols: 1, and 4, two numbers left out between.
        self.assertEqual(packed([4, 1]), slowly.laid("1" + "010" + "010" + "010" + "1" + "011" + "1" + "1" + "0"))
        # Seven eights: the mark 8, and a repeat of long 6, symbol 259, back 1.
        self.assertEqual(packed([8] * 7), slowly.laid(
            "1" + "00111" + "010" + "0001001" + "1" + "000000011111011" + "1" + "0" + "1" + "000001"))

    def test_packed_lengths_that_are_unlike(self):
        # 5 twice, 6 and 7 once: lengths 1, 2, 2; codes 0, 10, 11.
        self.assertEqual(packed([5, 6, 5, 7]), slowly.laid(
            "1" + "00100" + "011" + "00110" + "1" + "1" + "010" + "1" + "010" + "0" + "10" + "0" + "11"))

    def test_plain_and_packed_against_bits_written_out(self):
        for block in some_blocks():
            with self.subTest(block=block):
                self.assertEqual(plain(block), slowly.laid(slowly.plain_bits(block)))
                self.assertEqual(packed(block), slowly.laid(slowly.packed_bits(block)))

    def test_all_blocks_of_three_marks_up_to_five(self):
        for many in range(1, 6):
            for block in itertools.product((0, 1, 7), repeat=many):
                self.assertEqual(plain(list(block)), slowly.laid(slowly.plain_bits(list(block))))
                self.assertEqual(packed(list(block)), slowly.laid(slowly.packed_bits(list(block))))

    def test_pressed_are_the_fewer_and_plain_where_as_many(self):
        as_many = fewer_plain = fewer_packed = 0
        for block in some_blocks():
            as_plain, as_packed = plain(block), packed(block)
            self.assertEqual(pressed(block), as_packed if len(as_packed) < len(as_plain) else as_plain)
            as_many += len(as_plain) == len(as_packed)
            fewer_plain += len(as_plain) < len(as_packed)
            fewer_packed += len(as_plain) > len(as_packed)
        self.assertGreater(min(as_many, fewer_plain, fewer_packed), 3)

    def test_as_many_by_hand(self):
        self.assertEqual((len(plain([1])), len(packed([1]))), (2, 2))
        self.assertEqual(pressed([1]), plain([1]))
        self.assertEqual(pressed([0]), packed([0]))
        self.assertEqual(pressed([200]), plain([200]))

    def test_the_code_bits_are_the_fewest_for_codes_of_which_none_begins_another(self):
        source = random.Random(6)
        for turn in range(60):
            block = some_text(source.randrange(2, 20), source.randrange(1, 5), turn)
            symbols = [slowly.symbol(token) for token in slowly.tokens(block)]
            counts = [symbols.count(one) for one in sorted(set(symbols))]
            if len(counts) > 5:
                continue
            reader = slowly.Figures(packed(block))
            self.assertEqual((reader.taken(1), reader.halves() + 1, reader.halves() + 1), (1, len(block), len(counts)))
            lengths = [(reader.halves(), reader.halves() + 1)[1] for one in counts]
            fitting = [some for some in itertools.product(range(1, 6), repeat=len(counts))
                       if sum(Fraction(1, 2 ** length) for length in some) <= 1]
            self.assertIn(tuple(lengths), fitting)
            self.assertEqual(
                sum(count * length for count, length in zip(counts, lengths)),
                min(sum(count * length for count, length in zip(counts, some)) for some in fitting))

    def test_lists_that_are_no_blocks(self):
        bad = [[], [0] * 49, some_text(49, 256, 1), [7] * 50, [1, 2] * 3000]
        bad += [ahead + [number] + behind for number in (-1, 256, 1000, THIRTY, FORTY, -FORTY)
                for ahead in ([], [5] * 47, [1, 2]) for behind in ([], [5]) if len(ahead) + len(behind) < 48]
        for block in bad:
            before = list(block)
            for asked in (plain, packed, pressed):
                with self.subTest(block=block[:9], asked=asked.__name__):
                    with self.assertRaises(NoBlock):
                        asked(block)
                    self.assertEqual(block, before)

    def test_blocks_of_one_and_of_48_marks_are_blocks(self):
        for asked in (plain, packed, pressed):
            self.assertEqual(opened(pressed([9])), [9])
            self.assertTrue(asked([9]) and asked([9] * 48))

    def test_only_low_bytes(self):
        for block in some_blocks():
            for asked in (plain, packed, pressed):
                self.assertTrue(all(0 <= byte < 128 for byte in asked(block)))

    def test_the_list_handed_in_stays_and_the_lists_told_are_new(self):
        for asked in (plain, packed, pressed):
            for block in ([0], [1, 2], [3] * 48, some_text(48, 256, 2)):
                before = list(block)
                told, again = asked(block), asked(block)
                told.append(1)
                told[0] = 127 - told[0]
                self.assertEqual(block, before)
                self.assertEqual(asked(block), again)
                block[0] = 9
                self.assertEqual(asked(before), again)

    def test_the_arguments_have_their_names(self):
        self.assertEqual((plain(block=[0]), packed(block=[0]), pressed(block=[0])), ([32, 0], [124], [124]))
        self.assertEqual(opened(data=[124]), [0])


class OpenedTest(unittest.TestCase):
    def refused(self, data):
        before = list(data)
        with self.subTest(data=data[:60]):
            with self.assertRaises(NoBlock):
                opened(data)
            self.assertEqual(data, before)

    # Told or refused as the slow reading says; tells whether it was told.
    def as_told_slowly(self, data):
        block = slowly.opened(data)
        if block is None:
            self.refused(data)
        else:
            self.assertEqual(opened(data), block)
        return block is not None

    def test_pressed_bytes_give_the_block(self):
        for block in some_blocks():
            self.assertEqual(opened(pressed(block)), block)

    def test_all_blocks_of_one_mark(self):
        for mark in range(256):
            self.assertEqual(opened(pressed([mark])), [mark])

    def test_no_bytes(self):
        self.refused([])

    def test_plain_where_packed_are_fewer_and_the_other_way_about(self):
        for block in some_blocks():
            for data in (plain(block), packed(block)):
                if data == pressed(block):
                    self.assertEqual(opened(data), block)
                else:
                    self.refused(data)

    def test_a_byte_put_behind_left_out_or_put_in_or_the_end_cut_off(self):
        source = random.Random(13)
        for block in some_blocks()[::3]:
            data = pressed(block)
            for byte in (0, 1, 64, 127):
                self.refused(data + [byte])
            self.refused(data + [0] * 50)
            for end in range(len(data)):
                self.as_told_slowly(data[:end])
            at = source.randrange(len(data))
            self.as_told_slowly(data[:at] + data[at + 1:])
            self.as_told_slowly(data[:at] + [source.randrange(128)] + data[at:])
            self.as_told_slowly(data[:at] + [data[at]] + data[at:])

    def test_each_bit_turned(self):
        for block in some_blocks()[::5]:
            data = pressed(block)
            for at in range(len(data)):
                for bit in range(7):
                    self.as_told_slowly(data[:at] + [data[at] ^ 1 << bit] + data[at + 1:])

    def test_filling_bits_that_are_no_noughts(self):
        filled = 0
        for block in some_blocks():
            data = pressed(block)
            bits = slowly.packed_bits(block) if data[0] >= 64 else slowly.plain_bits(block)
            for bit in range(len(data) * 7 - len(bits)):
                filled += 1
                self.refused(data[:-1] + [data[-1] | 1 << bit])
        self.assertGreater(filled, 100)

    def test_bytes_that_are_none(self):
        for block in some_blocks()[::7]:
            data = pressed(block)
            for at in (0, len(data) // 2, len(data) - 1):
                for other in (128, data[at] + 128, 255, 256, data[at] + 256, -1, data[at] - 128, THIRTY, FORTY, -THIRTY):
                    self.refused(data[:at] + [other] + data[at + 1:])
                    self.refused(data[:at] + [other] + data[at:])

    def test_tables_and_tokens_that_no_block_has(self):
        source = random.Random(17)
        for block in some_blocks()[::3]:
            for data in other_writings(block, source):
                self.as_told_slowly(data)

    def test_tokens_that_are_not_the_first_choice(self):
        # Nine noughts, as a mark and two repeats, and with another back; one of them alone is the block's.
        for tokens in ([0, (1, 8)], [0, (1, 4), (5, 4)], [0, 0, (1, 7)], [0, 0, (2, 7)], [0, 0, 0, 0, (4, 5)]):
            data = slowly.laid(slowly.written_bits(9, slowly.lengths_of_tokens(tokens), tokens))
            if tokens == [0, (1, 8)]:
                self.assertEqual(opened(data), [0] * 9)
            else:
                self.refused(data)

    def test_backs_that_reach_nothing(self):
        for back in range(64):
            tokens = [0, 0, (back, 7)]
            self.refused(slowly.laid(slowly.written_bits(9, slowly.lengths_of_tokens(tokens), tokens)))
            tokens = [0, (back, 8)]
            self.as_told_slowly(slowly.laid(slowly.written_bits(9, slowly.lengths_of_tokens(tokens), tokens)))

    def test_symbols_and_lengths_far_off(self):
        for one in (255, 256, 300, 301, 5000, 10 ** 6, 2 ** 80, 2 ** 160):
            self.refused(slowly.laid("1" + slowly.halves(47) + "010" + "1" + "1" + slowly.halves(one) + "1" + "01000001"))
        for length in (2, 59, 60, 61, 10 ** 6, 2 ** 80):
            self.refused(slowly.laid("1" + "010" + "1" + "1" + slowly.halves(length - 1) + "0" * 130))
        # Three codes of length 1 don't fit.
        self.refused(slowly.laid("1" + "011" + "011" + "11" * 3 + "010"))
        for many in (48, 49, 255, 10 ** 6, 2 ** 90):
            self.refused(slowly.laid("1" + slowly.halves(many) + "1" + "1" + "1" + "0" * 60))
            self.refused(slowly.laid("0" + slowly.halves(many) + "0" * 400))
            self.refused(slowly.laid("1" + "010" + slowly.halves(many) + "1" * 300))

    def test_a_repeat_without_measure_is_not_laid_out(self):
        for many in (49, 1000, 2 ** 70):
            table = "010" + "1" + "1" + slowly.halves(253 + many - 1 - 1) + "1"
            self.refused(slowly.laid("1" + slowly.halves(many - 1) + table + "0" + "1" + "000001"))
            self.refused(slowly.laid("1" + slowly.halves(47) + table + "0" + "1" + "000001"))

    def test_more_bytes_than_any_block_has(self):
        self.assertEqual(len(pressed(list(range(100, 148)))), 57)
        for data in ([0] * 58, [127] * 58, [0] * 6000, [127] * 6000, [64] * 6000, [85] * 6000, [42] * 6000):
            self.refused(data)

    def test_all_of_one_and_two_bytes(self):
        # No other block has as few bytes: four marks take a third one, and so does a mark of 20 or more beside others.
        small = [[mark] for mark in range(256)]
        small += [list(block) for many in (2, 3) for block in itertools.product(range(20), repeat=many)]
        known = {tuple(slowly.pressed(block)): block for block in small}
        told = 0
        for data in itertools.chain(itertools.product(range(128), repeat=1), itertools.product(range(128), repeat=2)):
            if data in known:
                told += 1
                self.assertEqual(opened(list(data)), known[data])
            else:
                with self.assertRaises(NoBlock):
                    opened(list(data))
        self.assertEqual(told, len([data for data in known if len(data) < 3]))
        self.assertGreater(told, 256)

    def test_many_of_three_to_twelve_bytes(self):
        source = random.Random(23)
        told = 0
        for many in range(3, 13):
            for turn in range(1500):
                told += self.as_told_slowly([source.randrange(128) for at in range(many)])
        self.assertGreater(told, 20)

    def test_many_plain_heads(self):
        source = random.Random(29)
        told = 0
        for marks in range(1, 11):
            head = "0" + slowly.halves(marks - 1)
            for turn in range(100):
                bits = head + "".join(source.choice("01") for at in range(8 * marks))
                told += self.as_told_slowly(slowly.laid(bits))
        self.assertGreater(told, 400)

    def test_the_list_told_is_new(self):
        for block in ([0], [1, 2], [3] * 48):
            data = pressed(block)
            opened(data).append(5)
            self.assertEqual(opened(data), block)
            self.assertEqual(data, pressed(block))


if __name__ == "__main__":
    unittest.main()

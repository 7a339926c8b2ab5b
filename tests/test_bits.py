import random
import unittest

from seekpress.bits import Bits, bits_of, halves, laid, low_bytes, number_of
from seekpress.errors import NoBits

FORTY = 10 ** 40 - 1
NUMBERS = sorted(set(
    list(range(40)) + [127, 128, 129, 16383, 16384, 16385, 10 ** 39, FORTY]
    + [2 ** power + step for power in (1, 2, 3, 7, 8, 14, 31, 64, 100, 132) for step in (-1, 0, 1)]
))


def figures(number, width):
    return [int(sign) for sign in bin(number)[2:].rjust(width, "0")] if width else []


def width_of(number):
    return len(bin(number)) - 2 if number else 0


class BitsOfTest(unittest.TestCase):
    def test_the_highest_bit_comes_first(self):
        self.assertEqual(bits_of(1, 3), [0, 0, 1])
        self.assertEqual(bits_of(4, 3), [1, 0, 0])
        self.assertEqual(bits_of(6, 3), [1, 1, 0])
        self.assertEqual(bits_of(200, 8), [1, 1, 0, 0, 1, 0, 0, 0])

    def test_numbers_of_all_sizes_in_just_their_width_and_in_more(self):
        for number in NUMBERS:
            for more in (0, 1, 5, 90):
                width = width_of(number) + more
                with self.subTest(number=number, width=width):
                    self.assertEqual(bits_of(number, width), figures(number, width))

    def test_a_width_of_nought_is_no_bits(self):
        self.assertEqual(bits_of(0, 0), [])

    def test_nought_is_noughts(self):
        self.assertEqual(bits_of(0, 9), [0] * 9)

    def test_the_list_is_new(self):
        told = bits_of(5, 3)
        told.append(1)
        told[0] = 0
        self.assertEqual(bits_of(5, 3), [1, 0, 1])
        bits_of(0, 0).append(1)
        self.assertEqual(bits_of(0, 0), [])

    def test_the_arguments_have_their_names(self):
        self.assertEqual(bits_of(number=2, width=3), [0, 1, 0])


class HalvesTest(unittest.TestCase):
    def test_as_the_document_writes_them(self):
        self.assertEqual(halves(0), [1])
        self.assertEqual(halves(1), [0, 1, 0])
        self.assertEqual(halves(2), [0, 1, 1])

    def test_the_next_ones(self):
        self.assertEqual(halves(3), [0, 0, 1, 0, 0])
        self.assertEqual(halves(6), [0, 0, 1, 1, 1])
        self.assertEqual(halves(7), [0, 0, 0, 1, 0, 0, 0])

    def test_about_powers_of_two_and_of_forty_figures(self):
        for number in NUMBERS:
            with self.subTest(number):
                written = figures(number + 1, 1)
                self.assertEqual(halves(number), [0] * (len(written) - 1) + written)

    def test_the_list_is_new(self):
        halves(0).append(0)
        self.assertEqual(halves(0), [1])

    def test_the_argument_has_its_name(self):
        self.assertEqual(halves(number=1), [0, 1, 0])


class LaidTest(unittest.TestCase):
    def test_no_bits_are_no_bytes(self):
        self.assertEqual(laid([]), [])

    def test_one_bit_is_the_highest(self):
        self.assertEqual(laid([1]), [64])
        self.assertEqual(laid([0]), [0])

    def test_six_seven_and_eight(self):
        self.assertEqual(laid([0, 0, 0, 0, 0, 1]), [2])
        self.assertEqual(laid([0, 0, 0, 0, 0, 0, 1]), [1])
        self.assertEqual(laid([1] * 7), [127])
        self.assertEqual(laid([1, 0, 0, 0, 0, 0, 1, 1]), [65, 64])
        self.assertEqual(laid([0] * 8), [0, 0])

    def test_just_fourteen_and_one_more(self):
        self.assertEqual(laid([0] * 13 + [1]), [0, 1])
        self.assertEqual(laid([0] * 14 + [1]), [0, 0, 64])

    def test_all_lengths_by_figures(self):
        source = random.Random(4)
        for many in list(range(60)) + [6000, 42000]:
            bits = [source.randrange(2) for at in range(many)]
            signs = "".join(str(bit) for bit in bits)
            wanted = [int(signs[at:at + 7].ljust(7, "0"), 2) for at in range(0, many, 7)]
            with self.subTest(many):
                self.assertEqual(laid(bits), wanted)

    def test_the_bits_handed_in_stay_and_the_list_is_new(self):
        for many in (0, 3, 7, 8):
            bits = [1] * many
            told = laid(bits)
            again = laid(bits)
            self.assertEqual(bits, [1] * many)
            told.append(9)
            self.assertEqual(laid(bits), again)
            bits.append(0)
            self.assertEqual(again, laid([1] * many))

    def test_the_argument_has_its_name(self):
        self.assertEqual(laid(bits=[1]), [64])


class LowBytesTest(unittest.TestCase):
    def test_the_highest_seven_bits_come_first(self):
        self.assertEqual(low_bytes(1, 2), [0, 1])
        self.assertEqual(low_bytes(128, 2), [1, 0])
        self.assertEqual(low_bytes(300, 2), [2, 44])
        self.assertEqual(low_bytes(127, 1), [127])

    def test_none_and_more_than_needed(self):
        self.assertEqual(low_bytes(0, 0), [])
        self.assertEqual(low_bytes(0, 3), [0, 0, 0])
        self.assertEqual(low_bytes(5, 4), [0, 0, 0, 5])

    def test_the_edges_of_two_and_three(self):
        self.assertEqual(low_bytes(128 ** 2 - 1, 2), [127, 127])
        self.assertEqual(low_bytes(128 ** 2, 3), [1, 0, 0])
        self.assertEqual(low_bytes(128 ** 3 - 1, 3), [127, 127, 127])

    def test_by_figures_and_back(self):
        for number in NUMBERS:
            least = (width_of(number) + 6) // 7
            for many in (least, least + 1, least + 20):
                with self.subTest(number=number, many=many):
                    signs = bin(number)[2:].rjust(7 * many, "0")
                    wanted = [int(signs[at:at + 7], 2) for at in range(0, 7 * many, 7)]
                    told = low_bytes(number, many)
                    self.assertEqual(told, wanted)
                    self.assertEqual(number_of(told), number)

    def test_the_list_is_new(self):
        low_bytes(5, 1).append(5)
        low_bytes(0, 0).append(5)
        self.assertEqual(low_bytes(5, 1), [5])
        self.assertEqual(low_bytes(0, 0), [])

    def test_the_arguments_have_their_names(self):
        self.assertEqual(low_bytes(number=1, many=2), [0, 1])


class NumberOfTest(unittest.TestCase):
    def test_ordinary_ones(self):
        self.assertEqual(number_of([5]), 5)
        self.assertEqual(number_of([1, 0]), 128)
        self.assertEqual(number_of([2, 44]), 300)
        self.assertEqual(number_of([0, 0, 1]), 1)
        self.assertEqual(number_of([127, 127, 127]), 128 ** 3 - 1)

    def test_no_bytes_and_noughts_are_nought(self):
        self.assertEqual(number_of([]), 0)
        self.assertEqual(number_of([0, 0]), 0)

    def test_six_thousand_bytes_and_back(self):
        data = [(at * 37 + 1) % 128 for at in range(6000)]
        self.assertEqual(low_bytes(number_of(data), 6000), data)

    def test_the_list_handed_in_stays(self):
        data = [1, 2, 3]
        number_of(data)
        self.assertEqual(data, [1, 2, 3])

    def test_the_argument_has_its_name(self):
        self.assertEqual(number_of(data=[1, 0]), 128)


class BitsTest(unittest.TestCase):
    def refused(self, reader, ask):
        left = reader.left()
        with self.assertRaises(NoBits):
            ask()
        self.assertEqual(reader.left(), left)

    def test_a_number_in_so_many_bits(self):
        reader = Bits([0b1010011, 0b0111000])
        self.assertEqual(reader.left(), 14)
        self.assertEqual(reader.take(1), 1)
        self.assertEqual(reader.take(3), 2)
        self.assertEqual(reader.take(5), 13)
        self.assertEqual(reader.left(), 5)
        self.assertEqual(reader.take(5), 24)
        self.assertEqual(reader.left(), 0)

    def test_numbers_by_halves(self):
        reader = Bits(laid([1, 0, 1, 0, 0, 1, 1, 0, 0, 1, 0, 0, 1, 1]))
        self.assertEqual([reader.take_halves() for at in range(6)], [0, 1, 2, 3, 0, 0])
        self.assertEqual(reader.left(), 0)

    def test_what_was_laid_is_read_back_in_its_order(self):
        source = random.Random(5)
        for turn in range(60):
            rows = []
            bits = []
            for at in range(source.randrange(1, 50)):
                number = source.choice(NUMBERS)
                width = width_of(number) + source.choice((0, 0, 1, 9))
                by_halves = source.randrange(2) == 1
                rows.append((number, width, by_halves, len(bits)))
                bits += halves(number) if by_halves else bits_of(number, width)
            data = laid(bits)
            reader = Bits(data)
            for number, width, by_halves, ahead in rows:
                self.assertEqual(reader.left(), 7 * len(data) - ahead)
                told = reader.take_halves() if by_halves else reader.take(width)
                self.assertEqual(told, number)
            self.assertEqual(reader.left(), 7 * len(data) - len(bits))

    def test_to_take_no_bits(self):
        reader = Bits([64])
        self.assertEqual(reader.take(0), 0)
        self.assertEqual(reader.left(), 7)
        self.assertEqual(reader.take(1), 1)
        self.assertEqual(reader.take(6), 0)
        self.assertEqual(reader.take(0), 0)
        self.assertEqual(reader.left(), 0)
        self.assertEqual(Bits([]).take(0), 0)

    def test_to_take_all_and_one_more(self):
        self.assertEqual(Bits([127]).take(7), 127)
        reader = Bits([127])
        self.refused(reader, lambda: reader.take(8))
        self.assertEqual(reader.take(7), 127)
        self.refused(reader, lambda: reader.take(1))

    def test_a_refused_taking_takes_nothing(self):
        reader = Bits([0b1100101, 0b0000001])
        self.assertEqual(reader.take(2), 3)
        for width in (13, 14, 15, 7000, FORTY):
            self.refused(reader, lambda: reader.take(width))
        self.assertEqual(reader.take(5), 5)
        self.assertEqual(reader.left(), 7)
        self.refused(reader, reader.take_halves)
        self.assertEqual(reader.take(7), 1)

    def test_halves_that_lack_one_bit_are_refused_and_those_that_lack_none_are_told(self):
        for noughts in range(0, 12):
            bits = [0] * noughts + [1] + [1, 0] * 6
            whole = 2 * noughts + 1
            for given in range(1, whole + 8):
                # The bits given stand at the very end of the bytes, behind a filling that is taken first.
                filling = -given % 7
                reader = Bits(laid([1] * filling + (bits + [0] * whole)[:given]))
                reader.take(filling)
                with self.subTest(noughts=noughts, given=given):
                    if given < whole:
                        self.refused(reader, reader.take_halves)
                        self.refused(reader, reader.take_halves)
                        self.assertEqual(figures(reader.take(given), given), bits[:given])
                    else:
                        wanted = int("1" + ("10" * 6)[:noughts], 2) - 1
                        self.assertEqual(reader.take_halves(), wanted)
                        self.assertEqual(reader.left(), given - whole)

    def test_behind_refused_halves_a_narrower_reading_answers(self):
        reader = Bits([0b0000110])
        self.refused(reader, reader.take_halves)
        self.assertEqual(reader.take(3), 0)
        self.assertEqual(reader.take_halves(), 2)
        self.assertEqual(reader.left(), 1)

    def test_bytes_that_are_all_noughts(self):
        for many in (1, 2, 6000):
            reader = Bits([0] * many)
            self.assertEqual(reader.left(), 7 * many)
            self.refused(reader, reader.take_halves)
            self.assertEqual(reader.take(7), 0)
            self.assertEqual(reader.left(), 7 * many - 7)
            self.refused(reader, reader.take_halves)

    def test_no_bytes_at_all(self):
        reader = Bits([])
        self.assertEqual(reader.left(), 0)
        self.refused(reader, lambda: reader.take(1))
        self.refused(reader, reader.take_halves)
        self.assertEqual(reader.take(0), 0)

    def test_a_wide_number_is_told_and_may_be_handed_in_again(self):
        data = [(at * 53 + 7) % 128 for at in range(6000)]
        number = Bits(data).take(42000)
        self.assertEqual(laid(bits_of(number, 42000)), data)
        self.assertEqual(Bits(laid(halves(number))).take_halves(), number)

    def test_two_readers_of_one_list(self):
        data = [0b1000001, 0b0110000]
        one = Bits(data)
        other = Bits(data)
        self.assertEqual(one.take(7), 65)
        self.assertEqual(other.left(), 14)
        self.assertEqual(other.take(3), 4)
        self.assertEqual(one.left(), 7)
        self.assertEqual(one.take_halves(), 2)
        self.assertEqual(other.take(4), 1)

    def test_the_list_handed_in_stays_and_what_is_done_to_it_changes_nothing(self):
        data = [1, 2, 3]
        reader = Bits(data)
        reader.take(5)
        self.assertEqual(data, [1, 2, 3])
        data[0] = 127
        data.append(5)
        self.assertEqual(reader.left(), 16)
        self.assertEqual(reader.take(2), 1)
        data.clear()
        self.assertEqual(reader.left(), 14)
        self.assertEqual(reader.take(14), 2 * 128 + 3)

    def test_the_arguments_have_their_names(self):
        self.assertEqual(Bits(data=[127]).take(width=2), 3)


if __name__ == "__main__":
    unittest.main()

"""Numbers written as bits and as low bytes, and the reading of bits [4, 5]."""

from seekpress.errors import NoBits

BIT = 1
LOW_BYTE = 7


# Bits and low bytes are written alike, the highest piece first; only the size of a piece, in bits, is another.
def pieces_of(number, size, many):
    top = (1 << size) - 1
    return [(number >> (size * (many - 1 - at))) & top for at in range(many)]


def joined(pieces, size):
    number = 0
    for piece in pieces:
        number = (number << size) | piece
    return number


def bits_of(number, width):
    return pieces_of(number, BIT, width)


def halves(number):
    # One more than the number, so that there is a first 1, also of 0, at which a reader sees the noughts end.
    raised = number + 1
    width = raised.bit_length()
    return [0] * (width - 1) + bits_of(raised, width)


def laid(bits):
    over = len(bits) % LOW_BYTE
    filled = bits + [0] * ((LOW_BYTE - over) % LOW_BYTE)
    return [joined(filled[at:at + LOW_BYTE], BIT) for at in range(0, len(filled), LOW_BYTE)]


def low_bytes(number, many):
    return pieces_of(number, LOW_BYTE, many)


def number_of(data):
    return joined(data, LOW_BYTE)


class Bits:
    def __init__(self, data):
        # Spread out at once: what is done to the list later must not reach the reader.
        self.spread = []
        for byte in data:
            self.spread.extend(bits_of(byte, LOW_BYTE))
        self.at = 0

    def left(self):
        return len(self.spread) - self.at

    def take(self, width):
        if width > self.left():
            raise NoBits("fewer bits are left than are needed")
        begin = self.at
        self.at = begin + width
        return joined(self.spread[begin:self.at], BIT)

    def take_halves(self):
        noughts = self.noughts_ahead()
        # In one taking, noughts and all: a refusal must not have taken a part of it.
        return self.take(noughts + noughts + 1) - 1

    def noughts_ahead(self):
        end = self.at
        while end < len(self.spread) and self.spread[end] == 0:
            end += 1
        return end - self.at

"""Codes of which none is the beginning of another [15]."""

from seekpress.bits import bits_of
from seekpress.errors import NoCode

LONGEST = 60


def refuse_unfit(lengths):
    if len(lengths) == 0:
        raise NoCode("there are no symbols")
    ahead = -1
    for symbol, length in lengths:
        if symbol <= ahead:
            raise NoCode("the symbols don't rise from 0 on")
        if length < 1 or length > LONGEST:
            raise NoCode("a length is out of its bounds")
        ahead = symbol
    # In whole numbers: all is taken as many times as the longest code needs.
    if sum([1 << (LONGEST - length) for symbol, length in lengths]) > 1 << LONGEST:
        raise NoCode("the lengths don't fit")


def codes_of(lengths):
    refuse_unfit(lengths)
    bits = {}
    code = -1
    ahead = 0
    # Sorting keeps the order of like ones, and the symbols rise.
    for symbol, length in sorted(lengths, key=lambda pair: pair[1]):
        code = (code + 1) << (length - ahead)
        ahead = length
        bits[symbol] = bits_of(code, length)
    return [(symbol, bits[symbol]) for symbol, length in lengths]

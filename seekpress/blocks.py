"""Blocks as bytes: plain, packed, and whichever is less [16, 17, 18]."""

from seekpress.bits import Bits, bits_of, halves, laid
from seekpress.codes import codes_of
from seekpress.errors import NoBits, NoBlock, NoCode, NoRepeat
from seekpress.lengths import lengths_of
from seekpress.repeats import laid_out, tokens_of
from seekpress.rule import is_text

MOST_MARKS = 48
# Those of 48 plain marks, 396 bits; packed ones are pressed ones only where they are fewer.
MOST_BYTES = 57
LOW = 128
PLAIN = 0
PACKED = 1
MARK_BITS = 8
BACK_BITS = 6
# Above all marks, as no repeat is shorter than three.
REPEAT = 253
FIRST_REPEAT = 256


def refuse_no_block(block):
    if not is_text(block) or len(block) < 1 or len(block) > MOST_MARKS:
        raise NoBlock("a block is a text of 1 to 48 marks")


def plain(block):
    refuse_no_block(block)
    bits = [PLAIN] + halves(len(block) - 1)
    for mark in block:
        bits.extend(bits_of(mark, MARK_BITS))
    return laid(bits)


def symbol_of(token):
    return REPEAT + token[1] if isinstance(token, tuple) else token


def counts_of(symbols):
    counts = {}
    for symbol in sorted(symbols):
        counts[symbol] = counts.get(symbol, 0) + 1
    return list(counts.items())


def table_bits(lengths):
    bits = halves(len(lengths) - 1)
    ahead = -1
    for symbol, length in lengths:
        bits.extend(halves(symbol - ahead - 1))
        bits.extend(halves(length - 1))
        ahead = symbol
    return bits


def token_bits(tokens, codes):
    bits = []
    for token in tokens:
        bits.extend(codes[symbol_of(token)])
        if isinstance(token, tuple):
            bits.extend(bits_of(token[0], BACK_BITS))
    return bits


def packed(block):
    refuse_no_block(block)
    tokens = tokens_of(block)
    lengths = lengths_of(counts_of([symbol_of(token) for token in tokens]))
    head = [PACKED] + halves(len(block) - 1)
    return laid(head + table_bits(lengths) + token_bits(tokens, dict(codes_of(lengths))))


def pressed(block):
    as_plain = plain(block)
    as_packed = packed(block)
    return as_packed if len(as_packed) < len(as_plain) else as_plain


def read_table(reader):
    lengths = []
    symbol = -1
    for turn in range(reader.take_halves() + 1):
        symbol += reader.take_halves() + 1
        lengths.append((symbol, reader.take_halves() + 1))
    return lengths


def read_symbol(reader, symbols):
    code = (reader.take(1),)
    while code not in symbols:
        code = code + (reader.take(1),)
    return symbols[code]


def read_tokens(reader, symbols, many):
    tokens = []
    lacking = many
    while lacking > 0:
        symbol = read_symbol(reader, symbols)
        if symbol < FIRST_REPEAT:
            tokens.append(symbol)
            lacking -= 1
        else:
            tokens.append((reader.take(BACK_BITS), symbol - REPEAT))
            lacking -= symbol - REPEAT
    # Ahead of the laying out: a table that no block has may tell of a repeat without measure.
    if lacking < 0:
        raise NoBlock("the tokens stand for more marks than the block has")
    return tokens


def read_packed(reader, many):
    codes = codes_of(read_table(reader))
    symbols = dict([(tuple(bits), symbol) for symbol, bits in codes])
    return laid_out(read_tokens(reader, symbols, many))


def read_block(reader):
    form = reader.take(1)
    many = reader.take_halves() + 1
    if many > MOST_MARKS:
        raise NoBlock("a block has at most 48 marks")
    if form == PLAIN:
        return [reader.take(MARK_BITS) for at in range(many)]
    return read_packed(reader, many)


def opened(data):
    if not is_text(data) or len(data) > MOST_BYTES or any([byte >= LOW for byte in data]):
        raise NoBlock("these are not the bytes of a block")
    try:
        block = read_block(Bits(data))
    except (NoBits, NoCode, NoRepeat):
        raise NoBlock("these bytes can't be read as a block") from None
    # Many bytes can be read as one block, but one row of them alone is what it is pressed to.
    if pressed(block) != data:
        raise NoBlock("the block that is read has other bytes")
    return block

"""What the document says, done by its words, without haste and without the program."""


def sign(text):
    padded = [0, 0, 0] + text
    return padded[-3] + 5 * padded[-2] + 11 * padded[-1]


def closed(text, four):
    part, least, most, kids = four
    by_sign = len(text) >= least and sign(text) // part * part == sign(text)
    return by_sign or len(text) == most


def blocks(text, four):
    found, rest = [], text
    while rest:
        end = next((end for end in range(1, len(rest)) if closed(rest[:end], four)), len(rest))
        found.append(rest[:end])
        rest = rest[end:]
    return found


def groups(signs, level, four):
    part, least, most, kids = four
    found, group = [], 0
    for one in signs:
        group += 1
        number = one // part
        for turn in range(level - 1):
            number = number // 2
        if group == kids or group > 1 and number in range(0, number + 1, 2):
            found.append(group)
            group = 0
    return found + [group] if group else found


def is_true_repeat(text, at, back, long):
    return all(text[at + step] == text[at + step - back] for step in range(long))


def tokens(text):
    found, at = [], 0
    while at < len(text):
        best = None
        for long in range(3, len(text) - at + 1):
            backs = [back for back in range(1, at + 1) if is_true_repeat(text, at, back, long)]
            if not backs:
                break
            best = (backs[0], long)
        found.append(best or text[at])
        at += best[1] if best else 1
    return found


def text_of(tokens):
    text = []
    for token in tokens:
        if isinstance(token, tuple):
            for step in range(token[1]):
                text.append(text[-token[0]])
        else:
            text.append(token)
    return text


# Each thing is its count, when it came, and the symbols within.
def merging(counts):
    things = [(count, came, [symbol]) for came, (symbol, count) in enumerate(counts)]
    sums, came, depths = [], len(counts), {symbol: 0 for symbol, count in counts}
    while len(things) > 1:
        pair = sorted(things, key=lambda thing: thing[:2])[:2]
        things = [thing for thing in things if thing not in pair]
        within = pair[0][2] + pair[1][2]
        things.append((pair[0][0] + pair[1][0], came, within))
        sums.append(things[-1][0])
        came += 1
        for symbol in within:
            depths[symbol] += 1
    return sums, [(symbol, depths[symbol] or 1) for symbol, count in counts]


# In the order of lengths and then symbols, by written noughts and ones.
def codes(lengths):
    found, ahead = {}, None
    for length, symbol in sorted((length, symbol) for symbol, length in lengths):
        if ahead is None:
            ahead = "0" * length
        else:
            ahead = bin(int(ahead, 2) + 1)[2:].rjust(len(ahead), "0") + "0" * (length - len(ahead))
        found[symbol] = [int(figure) for figure in ahead]
    return [(symbol, found[symbol]) for symbol in sorted(found)]


# From here on bits are texts of noughts and ones.
def halves(number):
    figures = bin(number + 1)[2:]
    return "0" * (len(figures) - 1) + figures


def figures(number, width):
    return bin(number)[2:].rjust(width, "0")


def laid(bits):
    return [int(bits[at:at + 7].ljust(7, "0"), 2) for at in range(0, len(bits), 7)]


def plain_bits(block):
    return "0" + halves(len(block) - 1) + "".join(figures(mark, 8) for mark in block)


def symbol(token):
    return 253 + token[1] if isinstance(token, tuple) else token


# Lengths that aren't those of the counts, or tokens that aren't those of a text, are written just so too.
def written_bits(many, lengths, tokens):
    bits, left_out = "1" + halves(many - 1) + halves(len(lengths) - 1), 0
    for one, length in lengths:
        bits += halves(one - left_out) + halves(length - 1)
        left_out = one + 1
    by_symbol = dict(codes(lengths))
    for token in tokens:
        bits += "".join(str(bit) for bit in by_symbol[symbol(token)])
        bits += figures(token[0], 6) if isinstance(token, tuple) else ""
    return bits


def lengths_of_tokens(tokens):
    symbols = [symbol(token) for token in tokens]
    return merging([(one, symbols.count(one)) for one in sorted(set(symbols))])[1]


def packed_bits(block):
    found = tokens(block)
    return written_bits(len(block), lengths_of_tokens(found), found)


def pressed(block):
    as_plain, as_packed = laid(plain_bits(block)), laid(packed_bits(block))
    return as_plain if len(as_plain) <= len(as_packed) else as_packed


class Figures:
    def __init__(self, data):
        self.rest = "".join(figures(byte, 7) for byte in data)

    def taken(self, width):
        if len(self.rest) < width:
            raise LookupError("no figures are left")
        taken, self.rest = self.rest[:width], self.rest[width:]
        return int(taken, 2)

    def halves(self):
        width = 1
        while not self.taken(1):
            width += 1
        self.rest = "1" + self.rest
        return self.taken(width) - 1


def told_tokens(reader, by_code, many):
    found, marks, code = [], 0, ""
    while marks < many:
        code += str(reader.taken(1))
        if code in by_code:
            one, code = by_code[code], ""
            found.append(one if one < 256 else (reader.taken(6), one - 253))
            marks += 1 if one < 256 else one - 253
    return found if marks == many else None


def told_block(reader):
    form, many = reader.taken(1), reader.halves() + 1
    if many > 48:
        return None
    if form == 0:
        return [reader.taken(8) for at in range(many)]
    lengths, one = [], -1
    for turn in range(reader.halves() + 1):
        one += reader.halves() + 1
        lengths.append((one, reader.halves() + 1))
    if max(length for one, length in lengths) > 60 or sum(2 ** (60 - length) for one, length in lengths) > 2 ** 60:
        return None
    by_code = {"".join(str(bit) for bit in bits): one for one, bits in codes(lengths)}
    found = told_tokens(reader, by_code, many)
    for at, token in enumerate(found or []):
        if isinstance(token, tuple) and not 1 <= token[0] <= len(text_of(found[:at])):
            return None
    return None if found is None else text_of(found)


# The block of which these are the pressed bytes; None where there is none.
def opened(data):
    if not all(0 <= byte < 128 for byte in data):
        return None
    try:
        block = told_block(Figures(data))
    except LookupError:
        return None
    return block if block and pressed(block) == data else None

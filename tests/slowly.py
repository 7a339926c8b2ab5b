"""What the document says, done by its words, without haste and without the program."""


def sign(text):
    padded = [0, 0, 0] + text
    return padded[-3] + 5 * padded[-2] + 11 * padded[-1]


def closed(text, four):
    part, least, most, kids = four
    by_sign = len(text) >= least and sign(text) // part * part == sign(text)
    return by_sign or len(text) == most


def blocks(text, four):
    found, rest = [], text
    while rest:
        end = next((end for end in range(1, len(rest)) if closed(rest[:end], four)), len(rest))
        found.append(rest[:end])
        rest = rest[end:]
    return found


def groups(signs, level, four):
    part, least, most, kids = four
    found, group = [], 0
    for one in signs:
        group += 1
        number = one // part
        for turn in range(level - 1):
            number = number // 2
        if group == kids or group > 1 and number in range(0, number + 1, 2):
            found.append(group)
            group = 0
    return found + [group] if group else found


def is_true_repeat(text, at, back, long):
    return all(text[at + step] == text[at + step - back] for step in range(long))


def tokens(text):
    found, at = [], 0
    while at < len(text):
        best = None
        for long in range(3, len(text) - at + 1):
            backs = [back for back in range(1, at + 1) if is_true_repeat(text, at, back, long)]
            if not backs:
                break
            best = (backs[0], long)
        found.append(best or text[at])
        at += best[1] if best else 1
    return found


def text_of(tokens):
    text = []
    for token in tokens:
        if isinstance(token, tuple):
            for step in range(token[1]):
                text.append(text[-token[0]])
        else:
            text.append(token)
    return text


# Each thing is its count, when it came, and the symbols within.
def merging(counts):
    things = [(count, came, [symbol]) for came, (symbol, count) in enumerate(counts)]
    sums, came, depths = [], len(counts), {symbol: 0 for symbol, count in counts}
    while len(things) > 1:
        pair = sorted(things, key=lambda thing: thing[:2])[:2]
        things = [thing for thing in things if thing not in pair]
        within = pair[0][2] + pair[1][2]
        things.append((pair[0][0] + pair[1][0], came, within))
        sums.append(things[-1][0])
        came += 1
        for symbol in within:
            depths[symbol] += 1
    return sums, [(symbol, depths[symbol] or 1) for symbol, count in counts]


# In the order of lengths and then symbols, by written noughts and ones.
def codes(lengths):
    found, ahead = {}, None
    for length, symbol in sorted((length, symbol) for symbol, length in lengths):
        if ahead is None:
            ahead = "0" * length
        else:
            ahead = bin(int(ahead, 2) + 1)[2:].rjust(len(ahead), "0") + "0" * (length - len(ahead))
        found[symbol] = [int(figure) for figure in ahead]
    return [(symbol, found[symbol]) for symbol in sorted(found)]


# From here on bits are texts of noughts and ones.
def halves(number):
    figures = bin(number + 1)[2:]
    return "0" * (len(figures) - 1) + figures


def figures(number, width):
    return bin(number)[2:].rjust(width, "0")


def laid(bits):
    return [int(bits[at:at + 7].ljust(7, "0"), 2) for at in range(0, len(bits), 7)]


def plain_bits(block):
    return "0" + halves(len(block) - 1) + "".join(figures(mark, 8) for mark in block)


def symbol(token):
    return 253 + token[1] if isinstance(token, tuple) else token


# Lengths that aren't those of the counts, or tokens that aren't those of a text, are written just so too.
def written_bits(many, lengths, tokens):
    bits, left_out = "1" + halves(many - 1) + halves(len(lengths) - 1), 0
    for one, length in lengths:
        bits += halves(one - left_out) + halves(length - 1)
        left_out = one + 1
    by_symbol = dict(codes(lengths))
    for token in tokens:
        bits += "".join(str(bit) for bit in by_symbol[symbol(token)])
        bits += figures(token[0], 6) if isinstance(token, tuple) else ""
    return bits


def lengths_of_tokens(tokens):
    symbols = [symbol(token) for token in tokens]
    return merging([(one, symbols.count(one)) for one in sorted(set(symbols))])[1]


def packed_bits(block):
    found = tokens(block)
    return written_bits(len(block), lengths_of_tokens(found), found)


def pressed(block):
    as_plain, as_packed = laid(plain_bits(block)), laid(packed_bits(block))
    return as_plain if len(as_plain) <= len(as_packed) else as_packed


class Figures:
    def __init__(self, data):
        self.rest = "".join(figures(byte, 7) for byte in data)

    def taken(self, width):
        if len(self.rest) < width:
            raise LookupError("no figures are left")
        taken, self.rest = self.rest[:width], self.rest[width:]
        return int(taken, 2)

    def halves(self):
        width = 1
        while not self.taken(1):
            width += 1
        self.rest = "1" + self.rest
        return self.taken(width) - 1


def told_tokens(reader, by_code, many):
    found, marks, code = [], 0, ""
    while marks < many:
        code += str(reader.taken(1))
        if code in by_code:
            one, code = by_code[code], ""
            found.append(one if one < 256 else (reader.taken(6), one - 253))
            marks += 1 if one < 256 else one - 253
    return found if marks == many else None


def told_block(reader):
    form, many = reader.taken(1), reader.halves() + 1
    if many > 48:
        return None
    if form == 0:
        return [reader.taken(8) for at in range(many)]
    lengths, one = [], -1
    for turn in range(reader.halves() + 1):
        one += reader.halves() + 1
        lengths.append((one, reader.halves() + 1))
    if max(length for one, length in lengths) > 60 or sum(2 ** (60 - length) for one, length in lengths) > 2 ** 60:
        return None
    by_code = {"".join(str(bit) for bit in bits): one for one, bits in codes(lengths)}
    found = told_tokens(reader, by_code, many)
    for at, token in enumerate(found or []):
        if isinstance(token, tuple) and not 1 <= token[0] <= len(text_of(found[:at])):
            return None
    return None if found is None else text_of(found)


# The block of which these are the pressed bytes; None where there is none.
def opened(data):
    if not all(0 <= byte < 128 for byte in data):
        return None
    try:
        block = told_block(Figures(data))
    except LookupError:
        return None
    return block if block and pressed(block) == data else None


def cuts(text, four):
    found = [0]
    for block in blocks(text, four):
        if closed(block, four):
            found.append(found[-1] + len(block))
    return found


# Where each block of a text begins and ends.
def spans(text, four):
    ends = [0]
    for block in blocks(text, four):
        ends.append(ends[-1] + len(block))
    return list(zip(ends, ends[1:]))


def is_cut_or_end(text, place, four):
    return place == len(text) or place in cuts(text, four)


# The first place from b on that is a cut or the end of the old text, and as far from its end one of the new text.
def joint(old, b, new, four):
    old_ends, new_ends = set(cuts(old, four)) | {len(old)}, set(cuts(new, four)) | {len(new)}
    return min(q for q in range(b, len(old) + 1) if q in old_ends and q + len(new) - len(old) in new_ends)


def met(text, a, b, four):
    return [at for at, (begin, end) in enumerate(spans(text, four)) if any(a <= x < b for x in range(begin, end))]


# The block, by its place in the row of blocks, in which the last cut ahead of a place is the begin; none at a cut.
def torn(text, place, four):
    if place in cuts(text, four):
        return []
    last = max(cut for cut in cuts(text, four) if cut < place)
    return [at for at, (begin, end) in enumerate(spans(text, four)) if begin == last]


# What change, pour and part open, as places in the rows of blocks of the old texts.
def opened_by_change(old, a, b, marks, four):
    new = old[:a] + marks + old[b:]
    return torn(old, a, four) + met(old, b, joint(old, b, new, four), four)


def opened_by_pour(one, other, four):
    return torn(one, len(one), four), met(other, 0, joint(other, 0, one + other, four), four)


def opened_by_part(text, at, four):
    across = [] if at == len(text) else torn(text, at, four)
    return across + met(text, at, joint(text, at, text[at:], four), four)


def check(data):
    return sum(place * byte for place, byte in enumerate([0] + data)) % 16381


# Sevens of bits, highest first.
def wide(number, many):
    return [number // 128 ** (many - 1 - at) % 128 for at in range(many)]


def frame(kind, number, body):
    data = [kind] + wide(number, 2) + wide(len(body), 2) + body
    return data + wide(check(data), 2)


# The rows of a book, each a list of knots, and each knot a list of places in the row beneath.
def rows(signs, four):
    found, level = [], 0
    while signs and (level == 0 or len(signs) > 1):
        level += 1
        row, begin, above = [], 0, []
        for size in groups(signs, level, four):
            row.append(list(range(begin, begin + size)))
            begin += size
            above.append(signs[begin - 1])
        found.append(row)
        signs = above
    return found


# All of a row beneath as tuples (likeness, place of its frame, long), so that like knots are seen by their kids.
def container(text, four):
    data, number, row, laid_down = [], 0, [], {}
    for block in blocks(text, four):
        if tuple(block) in laid_down:
            data += frame(129, number, wide(laid_down[tuple(block)][0], 2))
        else:
            laid_down[tuple(block)] = (number, len(data))
            data += frame(128, number, pressed(block))
        row.append((laid_down[tuple(block)][1], len(block)))
        number += 1
    for level, groups_of_row in enumerate(rows([sign(block) for block in blocks(text, four)], four), start=1):
        above, known = [], {}
        for group in groups_of_row:
            kids = tuple(row[place] for place in group)
            if kids not in known:
                known[kids] = (len(data), sum(long for place, long in kids))
                told = [byte for place, long in kids for byte in wide(place, 3) + wide(long, 3)]
                data += frame(130, number, [level, len(kids)] + told)
                number += 1
            above.append(known[kids])
        row = above
    root = row[0][0] if row else 0
    return data + frame(131, number, wide(root, 3) + wide(len(text), 3) + wide(len(data) + 16, 3))

"""Where a text is cut into blocks, and a row of signs into groups [8, 9, 10]."""

# Of the last mark, the one ahead of it, and the one ahead of that.
WEIGHTS = (11, 5, 1)


def sign_of(text):
    return sum([mark * weight for mark, weight in zip(reversed(text), WEIGHTS)])


# Asked without the text, as a store tells a block's long and its sign without opening it.
def closes(long, sign, rule):
    return long == rule.most() or (long >= rule.least() and sign % rule.part() == 0)


def is_closed(text, rule):
    return closes(len(text), sign_of(text), rule)


def block_end(text, begin, rule):
    for end in range(begin + 1, len(text)):
        if is_closed(text[begin:end], rule):
            return end
    return len(text)


def blocks_of(text, rule):
    blocks = []
    begin = 0
    while begin < len(text):
        end = block_end(text, begin, rule)
        blocks.append(text[begin:end])
        begin = end
    return blocks


def cuts_of(text, rule):
    cuts = [0]
    for block in blocks_of(text, rule):
        # The last block may have ended with the text alone, and then no cut stands behind it.
        if is_closed(block, rule):
            cuts.append(cuts[-1] + len(block))
    return cuts


def halved(number, times):
    left = times
    # Nought stays nought, and a level may be far greater than a sign has bits.
    while left > 0 and number > 0:
        number = number // 2
        left -= 1
    return number


def ends_group(sign, level, rule):
    return halved(sign // rule.part(), level - 1) % 2 == 0


def groups_of(signs, level, rule):
    groups = []
    size = 0
    for sign in signs:
        size += 1
        if size == rule.kids() or (size >= 2 and ends_group(sign, level, rule)):
            groups.append(size)
            size = 0
    if size > 0:
        groups.append(size)
    return groups

"""Containers read by the document's words, without the program, and containers that are changed by frames."""

import functools

import slowly


def number(data):
    return sum(byte * 128 ** (len(data) - 1 - at) for at, byte in enumerate(data))


# All frames of a whole container, as tuples (place, kind, number, body, after).
def frames(data):
    found, at = [], 0
    while at < len(data):
        after = at + 7 + number(data[at + 3:at + 5])
        found.append((at, data[at], number(data[at + 1:at + 3]), data[at + 5:after - 2], after))
        at = after
    return found


# The places and longs that a knot's body tells of its kids.
def kids(body):
    return [(number(body[at:at + 3]), number(body[at + 3:at + 6])) for at in range(2, len(body), 6)]


# The root's place, the long, the size.
def end(data):
    return [number(data[at:at + 3]) for at in range(len(data) - 11, len(data) - 2, 3)]


# The container with the frame at a place made anew of another kind, number or body of as many bytes.
def reframed(data, place, kind=None, count=None, body=None):
    old = [one for one in frames(data) if one[0] == place][0]
    row = slowly.frame(old[1] if kind is None else kind, old[2] if count is None else count,
                       old[3] if body is None else body)
    return data[:place] + row + data[old[4]:]


def turned(data, at, bit):
    return data[:at] + [data[at] ^ (1 << bit)] + data[at + 1:]


# The frames that are met going along the text, each as a tuple (place, begin, long, level due); None at the root.
def along(data, a, b):
    by_place = {one[0]: one for one in frames(data)}
    root, long, size = end(data)

    def below(place, begin, long, level):
        found = [(place, begin, long, level)]
        kind, body = by_place[place][1], by_place[place][3]
        if kind == 130:
            for kid, its_long in kids(body):
                if max(a, begin) < min(b, begin + its_long):
                    found += below(kid, begin, its_long, body[0] - 1)
                begin += its_long
        return found

    return below(root, 0, long, None) if a < b else []


@functools.lru_cache(maxsize=None)
def block_of(body):
    return slowly.opened(list(body))


# Whether a body is one of its kind.
def is_body(kind, body):
    if kind == 128:
        return block_of(tuple(body)) is not None
    if kind == 130:
        return len(body) >= 8 and len(body) == 2 + 6 * body[1]
    return len(body) == {129: 2, 131: 9}[kind]


# The frame at a place, as a tuple (kind, number, body, after); None where it is refused.
def told_frame(data, at):
    head = data[at:at + 5]
    if len(head) < 5 or head[0] not in (128, 129, 130, 131) or max(head[1:]) > 127:
        return None
    after = at + 7 + number(head[3:])
    row = data[at:after]
    if after > len(data) or max(row[1:]) > 127 or number(row[-2:]) != slowly.check(row[:-2]):
        return None
    return (row[0], number(row[1:3]), row[5:-2], after) if is_body(row[0], row[5:-2]) else None


# What is told by [34] of any bytes: the first frame that is refused or has another number.
def wrong_place(data):
    at, count, kind = 0, 0, None
    while at < len(data):
        found = told_frame(data, at)
        if found is None or found[1] != count:
            return at
        kind, count, at = found[0], count + 1, found[3]
    return None if kind == 131 else at


# Where, within the frame at a place, the byte stands that refuses it: the first one that may not stand there.
def refusing_byte(data, at):
    for place in range(at, len(data)):
        if (place == at and data[place] not in (128, 129, 130, 131)) or (place > at and data[place] > 127):
            return place
        if place >= at + 4 and place == at + 6 + number(data[at + 3:at + 5]):
            return place
    return None


# All marks that a feed tells, and for each number of bytes fed: how many marks, whether the end came, the wrong place.
def feeding(data):
    marks, known, states, at, count, ended = [], {}, [], 0, 0, False
    while True:
        last = refusing_byte(data, at)
        if ended and at < len(data):
            states += [(len(marks), True, None)] + [(len(marks), True, at)] * (len(data) - at)
            return marks, states
        if last is None:
            return marks, states + [(len(marks), ended, None)] * (len(data) + 1 - at)
        states += [(len(marks), ended, None)] * (last + 1 - at)
        more = fed_marks(data, at, count, known, marks)
        if more is None:
            return marks, states + [(len(marks), ended, at)] * (len(data) - last)
        marks, ended, count, at = marks + more, data[at] == 131, count + 1, last + 1


# The marks of a frame that is whole; None where a feed refuses it.
def fed_marks(data, at, count, known, marks):
    found = told_frame(data, at)
    if found is None or found[1] != count:
        return None
    kind, body, after = found[0], found[2], found[3]
    if kind == 128:
        known[count] = block_of(tuple(body))
    if kind == 129:
        return known.get(number(body))
    if kind == 131 and [number(body[3:6]), number(body[6:])] != [len(marks), after]:
        return None
    return known.get(count, [])

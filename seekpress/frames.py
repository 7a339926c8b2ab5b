"""Frames: the rows of bytes of which a container is made, and the reading of one [29, 31]."""

from seekpress.bits import low_bytes, number_of
from seekpress.blocks import opened
from seekpress.checks import check
from seekpress.errors import Broken, NoBlock

BLOCK = 128
AGAIN = 129
KNOT = 130
END = 131
KINDS = (128, 129, 130, 131)
LOW = 128
# The bytes ahead of the body: the kind, the frame's number, and the size of the body.
HEAD = 5
SIZE_AT = 3
CHECK = 2
AGAIN_BODY = 2
END_BODY = 9
# A knot's level and the number of its kids.
KNOT_HEAD = 2
# A place or a long within a body, and the two of them that stand for a kid.
WIDE = 3
KID = 6
# A whole end frame.
END_SIZE = 16


def frame(kind, number, body):
    data = [kind] + low_bytes(number, 2) + low_bytes(len(body), 2) + body
    return data + low_bytes(check(data), CHECK)


def knot_body(level, kids):
    body = [level, len(kids)]
    for place, long in kids:
        body.extend(low_bytes(place, WIDE) + low_bytes(long, WIDE))
    return body


def end_body(root, long, size):
    return low_bytes(root, WIDE) + low_bytes(long, WIDE) + low_bytes(size, WIDE)


def wide_numbers(body):
    return [number_of(body[at:at + WIDE]) for at in range(0, len(body), WIDE)]


# The places and longs of a knot's kids.
def knot_kids(body):
    numbers = wide_numbers(body[KNOT_HEAD:])
    return [(numbers[at], numbers[at + 1]) for at in range(0, len(numbers), 2)]


# Whether a byte may stand in a frame behind so many bytes of it.
def may_follow(many, byte):
    return byte in KINDS if many == 0 else byte < LOW


def may_be_frame(data):
    return all([may_follow(many, byte) for many, byte in enumerate(data)])


# The size of a whole frame, by the bytes ahead of its body.
def full_size(head):
    return HEAD + number_of(head[SIZE_AT:HEAD]) + CHECK


def is_knot_body(body):
    return len(body) > KNOT_HEAD and len(body) == KNOT_HEAD + KID * body[1]


def is_body(kind, body):
    if kind == AGAIN:
        return len(body) == AGAIN_BODY
    if kind == KNOT:
        return is_knot_body(body)
    return kind == BLOCK or len(body) == END_BODY


def whole_row(data, at):
    # Of fewer bytes than a head has a size is told too, but one that they don't reach.
    size = full_size(data[at:at + HEAD])
    row = data[at:at + size]
    if len(row) < size or not may_be_frame(row):
        raise Broken(at)
    if number_of(row[-CHECK:]) != check(row[:-CHECK]):
        raise Broken(at)
    return row


# A frame with its block's marks behind it, none of the other kinds: a block's body is opened anyhow, to be looked at.
def read_opened(data, at):
    row = whole_row(data, at)
    kind = row[0]
    body = row[HEAD:-CHECK]
    if not is_body(kind, body):
        raise Broken(at)
    try:
        marks = opened(body) if kind == BLOCK else []
    except NoBlock:
        raise Broken(at) from None
    return (kind, number_of(row[1:SIZE_AT]), body, at + len(row), marks)


def read_frame(data, at):
    return read_opened(data, at)[:4]

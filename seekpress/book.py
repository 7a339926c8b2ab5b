"""The book over a list of blocks, and what is found through it [22, 23]."""

from seekpress.cuts import groups_of
from seekpress.places import meets


def row_above(store, row, level, rule):
    knots = []
    begin = 0
    for size in groups_of([store.sign(number) for number in row], level, rule):
        knots.append(store.keep_knot(row[begin:begin + size]))
        begin += size
    # Only now: what no knot names yet would be gone.
    for number in row:
        store.let(number)
    return knots


def grown(store, numbers, rule):
    if len(numbers) == 0:
        return None
    level = 1
    row = row_above(store, numbers, level, rule)
    while len(row) > 1:
        level += 1
        row = row_above(store, row, level, rule)
    return row[0]


def met_kids(store, number, begin, a, b):
    met = []
    at = begin
    for kid in store.kids(number):
        if meets(at, store.long(kid), a, b):
            met.append((kid, at))
        at += store.long(kid)
    return met


def meeting(store, root, a, b):
    if root is None or not meets(0, store.long(root), a, b):
        return []
    row = [(root, 0)]
    # All of a row are of one level, so the blocks are met in one row.
    for turn in range(store.level(root)):
        below = []
        for number, begin in row:
            below.extend(met_kids(store, number, begin, a, b))
        row = below
    return row


def leaves(store, root):
    if root is None:
        return []
    return [number for number, begin in meeting(store, root, 0, store.long(root))]

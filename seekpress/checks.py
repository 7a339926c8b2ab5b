"""The check of a list of bytes [6]."""

# The greatest prime with room in two low bytes: as a prime it divides no byte's change times its place.
DIVISOR = 16381


def check(data):
    return sum([place * byte for place, byte in enumerate(data, start=1)]) % DIVISOR

"""How long each symbol's code is, by its count [13, 14]."""


# The things that are put together, by numbers: the symbols in their order, then the sums in the order of their making.
class Merging:
    def __init__(self, counts):
        self.many = len(counts)
        self.weights = [count for symbol, count in counts]
        self.symbols = sorted(range(self.many), key=lambda at: counts[at][1])
        self.symbols_taken = 0
        self.first_sum = self.many
        self.pairs = []

    def is_symbol_first(self):
        if self.symbols_taken == self.many:
            return False
        if self.first_sum == len(self.weights):
            return True
        # Of like counts the symbol: all symbols came ahead of all sums.
        symbol = self.symbols[self.symbols_taken]
        return self.weights[symbol] <= self.weights[self.first_sum]

    def take_first(self):
        if self.is_symbol_first():
            self.symbols_taken += 1
            return self.symbols[self.symbols_taken - 1]
        # No sum is less than one made ahead of it, so the first one left is the least.
        self.first_sum += 1
        return self.first_sum - 1

    def put_together(self):
        one = self.take_first()
        other = self.take_first()
        self.weights.append(self.weights[one] + self.weights[other])
        self.pairs.append((one, other))


def merged(counts):
    merging = Merging(counts)
    for turn in range(len(counts) - 1):
        merging.put_together()
    return merging


def merges_of(counts):
    return merged(counts).weights[len(counts):]


def lengths_of(counts):
    depths = {}
    number = 2 * len(counts) - 1
    # From the last sum down: how deep a sum lies is known ahead of what it is made of.
    for pair in reversed(merged(counts).pairs):
        number -= 1
        for thing in pair:
            depths[thing] = depths.get(number, 0) + 1
    # One symbol alone is in no sum, but needs a code.
    return [(pair[0], depths.get(at, 1)) for at, pair in enumerate(counts)]

"""Makes as plain lists that are changed themselves, and rows of deeds of all kinds."""

import random

import slowly
from making import some_text

NAMES = ("a", "z", "bc", "name", "abcdefgh", "q", "qq", "make")
# Part, least, most, kids: usual ones, and ones at their bounds.
RULES = (
    (4, 3, 12, 4), (1, 3, 3, 2), (1, 3, 48, 8), (64, 3, 48, 2), (64, 48, 48, 8), (7, 5, 20, 3), (2, 3, 6, 5),
)


class Plain:
    def __init__(self):
        self.texts = {}

    def new(self, name, text):
        self.texts[name] = list(text)

    def change(self, name, a, b, marks):
        self.texts[name] = self.texts[name][:a] + marks + self.texts[name][b:]

    def put(self, name, at, marks):
        self.texts[name] = self.texts[name][:at] + marks + self.texts[name][at:]

    def take(self, name, a, b):
        self.texts[name] = self.texts[name][:a] + self.texts[name][b:]

    def pour(self, name, one, other):
        self.texts[name] = self.texts[one] + self.texts[other]

    def part(self, name, at, left, right):
        self.texts[left], self.texts[right] = self.texts[name][:at], self.texts[name][at:]

    def twin(self, name, other):
        self.texts[other] = list(self.texts[name])

    def drop(self, name):
        self.texts.pop(name)


class Source:
    """Tells the next deed for the makes as they are: a tuple of its name and what is handed in."""

    def __init__(self, seed, below, most):
        self.source = random.Random(f"{seed} {below} {most}")
        self.below, self.most = below, most

    def marks(self, most):
        many = self.source.choice((0, 1, 2, self.source.randrange(most + 1)))
        return some_text(many, self.below, self.source.random())

    def place(self, long):
        return self.source.choice((0, long, self.source.randrange(long + 1), self.source.randrange(long + 1)))

    def stretch(self, long):
        near = self.place(long)
        pairs = ((0, near), (near, long), (0, long), (near, near), (near, min(long, near + 3)), (near, self.place(long)))
        return tuple(sorted(self.source.choice(pairs)))

    def deed(self, texts):
        there = sorted(texts)
        free = [name for name in NAMES if name not in texts]
        kinds = ["change", "change", "put", "put", "take", "drop"] if there else []
        kinds += ["new"] if free else []
        kinds += ["pour", "twin"] if there and free else []
        kinds += ["part"] if there and len(free) > 1 else []
        return getattr(self, "some_" + self.source.choice(kinds))(texts, there, free)

    def some_new(self, texts, there, free):
        return ("new", self.source.choice(free), self.marks(self.most))

    def some_change(self, texts, there, free):
        name = self.source.choice(there)
        return ("change", name) + self.stretch(len(texts[name])) + (self.marks(9),)

    def some_put(self, texts, there, free):
        name = self.source.choice(there)
        return ("put", name, self.place(len(texts[name])), self.marks(9))

    def some_take(self, texts, there, free):
        name = self.source.choice(there)
        return ("take", name) + self.stretch(len(texts[name]))

    def some_pour(self, texts, there, free):
        one, other = self.source.choice(there), self.source.choice(there)
        # So that texts poured with themselves don't grow without end.
        if len(texts[one]) + len(texts[other]) > 2 * self.most:
            return ("drop", one)
        return ("pour", self.source.choice(free), one, other)

    def some_part(self, texts, there, free):
        name = self.source.choice(there)
        left, right = self.source.sample(free, 2)
        return ("part", name, self.place(len(texts[name])), left, right)

    def some_twin(self, texts, there, free):
        return ("twin", self.source.choice(there), self.source.choice(free))

    def some_drop(self, texts, there, free):
        return ("drop", self.source.choice(there))


# Rows of deeds, each with the plain texts ahead of it.
def some_deeds(seed, below, most, many):
    plain, source = Plain(), Source(seed, below, most)
    for turn in range(many):
        deed = source.deed(plain.texts)
        yield deed, {name: list(text) for name, text in plain.texts.items()}
        getattr(plain, deed[0])(*deed[1:])


def done(deed, makes):
    return getattr(makes, deed[0])(*deed[1:])


# All numbers in a store that are found from these roots down, rising.
def reached(store, roots):
    found, going = set(), list(roots)
    while going:
        number = going.pop()
        if number not in found:
            found.add(number)
            going += store.kids(number)
    return sorted(found)


# Texts with their containers, by all rules, of one mark alone, of two and of any.
def some_containers(sizes, seed):
    for four in RULES:
        for below in (1, 2, 256):
            for many in sizes:
                text = some_text(many, below, seed)
                yield text, slowly.container(text, four)

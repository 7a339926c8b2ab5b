"""Makes: texts with names, kept as books in one store, and changed by opening the fewest blocks [24 to 28]."""

from seekpress.book import grown, leaves, meeting
from seekpress.cuts import blocks_of, closes, is_closed
from seekpress.errors import NoMake, NoName, NoText, Twice
from seekpress.places import refuse_no_stretch, within
from seekpress.rule import is_text
from seekpress.store import Store

MOST_LETTERS = 8


def is_name(thing):
    if not isinstance(thing, str) or not 1 <= len(thing) <= MOST_LETTERS:
        return False
    return all(["a" <= letter <= "z" for letter in thing])


def refuse_no_text(thing):
    if not is_text(thing):
        raise NoText("this is no list of marks")


def numbers_met(store, root, a, b):
    return [number for number, begin in meeting(store, root, a, b)]


# What one deed opens and packs, each once, however often a block's marks are needed or a block comes.
class Deed:
    def __init__(self, store):
        self.storage = store
        # Numbers rise, so what is greater than all that lie there ahead of the deed came by it.
        self.newest = max(store.lying(), default=-1)
        self.opened = {}
        self.packed = {}

    def marks_of(self, number):
        if number not in self.opened:
            self.opened[number] = self.storage.marks_of(number)
        return self.opened[number]

    def keep_block(self, block):
        number = self.storage.keep_block(block)
        if number > self.newest:
            self.packed[number] = True
        return number

    def told(self):
        return (list(self.opened), list(self.packed))


# Marks that come piece by piece and are cut anew: the blocks that are closed by now, and the loose rest behind them.
class Cutting:
    def __init__(self, rule):
        self.rule = rule
        self.done = []
        self.loose = []

    def add(self, marks):
        cut = blocks_of(self.loose + marks, self.rule)
        self.loose = []
        if cut and not is_closed(cut[-1], self.rule):
            self.loose = cut.pop()
        self.done.extend(cut)

    def all_blocks(self):
        return self.done + [self.loose] if self.loose else self.done


# How a text is put together: blocks of the store that stay, texts that are to come as blocks, blocks that stay.
class Plan:
    def __init__(self, ahead, between, behind):
        self.ahead = ahead
        self.between = between
        self.behind = behind


class Makes:
    def __init__(self, rule, opener=None):
        self.rule = rule
        self.storage = Store(opener)
        self.roots = {}

    def refuse_unknown(self, things):
        for thing in things:
            if not is_name(thing) or thing not in self.roots:
                raise NoMake("no make has this name")

    def refuse_as_new(self, things):
        for thing in things:
            if not is_name(thing):
                raise NoName("a name is one to eight letters from a to z")
        if len(set(things)) < len(things) or any([name in self.roots for name in things]):
            raise Twice("this name is there twice")

    def long_of(self, root):
        return 0 if root is None else self.storage.long(root)

    def let_go(self, root):
        if root is not None:
            self.storage.let(root)

    # The block that lies across a place, or ends there and isn't closed; none where the place is a cut.
    def torn(self, root, place):
        met = meeting(self.storage, root, max(place - 1, 0), place)
        return [(number, begin) for number, begin in met if not self.is_cut_behind(number, begin, place)]

    def is_cut_behind(self, number, begin, place):
        long = self.storage.long(number)
        return begin + long == place and closes(long, self.storage.sign(number), self.rule)

    # The text of one root up to a, then marks, then that of another root from b on.
    def spliced(self, deed, root, a, marks, other, b):
        cutting = Cutting(self.rule)
        last_cut = a
        for number, begin in self.torn(root, a):
            cutting.add(within(deed.marks_of(number), begin, 0, a))
            last_cut = begin
        cutting.add(marks)
        joint = self.run_on(cutting, deed, other, b)
        ahead = numbers_met(self.storage, root, 0, last_cut)
        behind = numbers_met(self.storage, other, joint, self.long_of(other))
        return Plan(ahead, cutting.all_blocks(), behind)

    # Up to the first place that is a cut ahead of the deed and behind it: from there on the old blocks stay.
    def run_on(self, cutting, deed, root, b):
        joint = b
        for number, begin in meeting(self.storage, root, b, self.long_of(root)):
            if begin == joint and not cutting.loose:
                break
            joint = begin + self.storage.long(number)
            cutting.add(within(deed.marks_of(number), begin, b, joint))
        return joint

    def grow(self, deed, plan):
        between = [deed.keep_block(block) for block in plan.between]
        # Once for each place, as the growing lets them go again.
        for number in plan.ahead + plan.behind:
            self.storage.keep_again(number)
        return grown(self.storage, plan.ahead + between + plan.behind, self.rule)

    def new(self, name, text):
        self.refuse_as_new([name])
        refuse_no_text(text)
        deed = Deed(self.storage)
        self.roots[name] = self.grow(deed, Plan([], blocks_of(text, self.rule), []))
        return deed.told()

    def change(self, name, a, b, marks):
        self.refuse_unknown([name])
        root = self.roots[name]
        refuse_no_stretch(a, b, self.long_of(root))
        refuse_no_text(marks)
        deed = Deed(self.storage)
        self.roots[name] = self.grow(deed, self.spliced(deed, root, a, marks, root, b))
        # Only now: what both books tell must not be gone between.
        self.let_go(root)
        return deed.told()

    def put(self, name, at, marks):
        return self.change(name, at, at, marks)

    def take(self, name, a, b):
        return self.change(name, a, b, [])

    def pour(self, name, one, other):
        self.refuse_unknown([one, other])
        self.refuse_as_new([name])
        deed = Deed(self.storage)
        root = self.roots[one]
        plan = self.spliced(deed, root, self.long_of(root), [], self.roots[other], 0)
        self.roots[name] = self.grow(deed, plan)
        return deed.told()

    def part(self, name, at, left, right):
        self.refuse_unknown([name])
        self.refuse_as_new([left, right])
        root = self.roots[name]
        refuse_no_stretch(at, at, self.long_of(root))
        deed = Deed(self.storage)
        # Both ahead of the growing: what can't be opened must leave all as it was.
        first = self.part_ahead(deed, root, at)
        second = self.spliced(deed, None, 0, [], root, at)
        self.roots[left] = self.grow(deed, first)
        self.roots[right] = self.grow(deed, second)
        return deed.told()

    def part_ahead(self, deed, root, at):
        # At the end nothing is torn, also where the last block isn't closed.
        if at == self.long_of(root):
            return Plan(leaves(self.storage, root), [], [])
        return self.spliced(deed, root, at, [], None, 0)

    def twin(self, name, other):
        self.refuse_unknown([name])
        self.refuse_as_new([other])
        root = self.roots[name]
        if root is not None:
            self.storage.keep_again(root)
        self.roots[other] = root
        return ([], [])

    def drop(self, name):
        self.refuse_unknown([name])
        self.let_go(self.roots.pop(name))

    def text(self, name):
        return self.stretch(name, 0, self.long(name))

    def stretch(self, name, a, b):
        self.refuse_unknown([name])
        root = self.roots[name]
        refuse_no_stretch(a, b, self.long_of(root))
        deed = Deed(self.storage)
        marks = []
        for number, begin in meeting(self.storage, root, a, b):
            marks.extend(within(deed.marks_of(number), begin, a, b))
        return marks

    def names(self):
        return sorted(self.roots)

    def long(self, name):
        return self.long_of(self.root(name))

    def root(self, name):
        self.refuse_unknown([name])
        return self.roots[name]

    def blocks(self, name):
        return leaves(self.storage, self.root(name))

    def store(self):
        return self.storage

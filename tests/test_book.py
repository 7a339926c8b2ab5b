import random
import unittest

import slowly
from making import some_text
from plainly import reached
from seekpress.book import grown, leaves, meeting
from seekpress.rule import Rule
from seekpress.store import Store

RULES = ((4, 3, 12, 4), (1, 3, 48, 2), (1, 3, 12, 8), (64, 48, 48, 8), (64, 3, 48, 2), (7, 3, 20, 3), (2, 3, 6, 5))


# A store that notes of which numbers the kids were asked, as meeting must go through knots that meet alone.
class NotingStore(Store):
    def __init__(self):
        Store.__init__(self)
        self.noted = []

    def kids(self, number):
        self.noted.append(number)
        return Store.kids(self, number)


def some_blocks(many, few, seed):
    source = random.Random(f"{many} {few} {seed}")
    kinds = [some_text(source.randrange(1, 9), 256, f"{seed} {kind}") for kind in range(few)]
    return [source.choice(kinds) for at in range(many)]


def kept(store, blocks):
    return [store.keep_block(block) for block in blocks]


# The numbers that a book over these has, where so many were given ahead, and its knots by numbers.
def numbered_by_words(numbers, signs, four, given):
    knots, row = {}, list(numbers)
    for groups in slowly.rows(signs, four):
        above = []
        for group in groups:
            kids = tuple(row[place] for place in group)
            if kids not in knots:
                knots[kids] = given
                given += 1
            above.append(knots[kids])
        row = above
    return row[0], {number: list(kids) for kids, number in knots.items()}


def named(store, number):
    return sum(store.kids(other).count(number) for other in store.lying())


def some_books():
    for four in RULES:
        for many in list(range(1, 12)) + [20, 40]:
            for few in (2, 40):
                yield four, some_blocks(many, few, 0)


class GrownTest(unittest.TestCase):
    def test_no_blocks(self):
        store = Store()
        self.assertIsNone(grown(store, [], Rule(4, 3, 12, 4)))
        self.assertEqual(store.lying(), [])

    def test_one_block_has_a_knot_of_one_kid_above_it(self):
        store = Store()
        numbers = kept(store, [[1, 2, 3]])
        self.assertEqual(grown(store, numbers, Rule(4, 3, 12, 4)), 1)
        self.assertEqual((store.lying(), store.kids(1), store.level(1)), ([0, 1], [0], 1))
        self.assertEqual((store.holds(0), store.holds(1)), (1, 1))

    def test_by_hand(self):
        store = Store()
        # Signs 11, 22, .. by part 4 are 2, 5, 8, 11, 13, 16: at level 1 groups end behind the third and the sixth.
        numbers = kept(store, [[1], [2], [3], [4], [5], [6]])
        root = grown(store, numbers, Rule(4, 3, 12, 4))
        self.assertEqual(root, 8)
        self.assertEqual([store.kids(number) for number in (6, 7, 8)], [[0, 1, 2], [3, 4, 5], [6, 7]])

    def test_each_row_is_the_groups_of_the_row_beneath_in_the_order_of_coming(self):
        for four, blocks in some_books():
            with self.subTest(four=four, many=len(blocks)):
                store = Store()
                numbers = kept(store, blocks)
                given = len(store.lying())
                root = grown(store, numbers, Rule(*four))
                wanted, knots = numbered_by_words(numbers, [slowly.sign(block) for block in blocks], four, given)
                self.assertEqual(root, wanted)
                lying = [number for number in store.lying() if store.level(number) > 0]
                self.assertEqual({number: store.kids(number) for number in lying}, knots)

    def test_what_lies_there_is_what_the_root_reaches_and_the_root_is_kept_once(self):
        for four, blocks in some_books():
            store = Store()
            root = grown(store, kept(store, blocks), Rule(*four))
            self.assertEqual(store.lying(), reached(store, [root]))
            for number in store.lying():
                self.assertEqual(store.holds(number), named(store, number) + (number == root))

    def test_the_root_let_go_nothing_lies_there(self):
        for four, blocks in some_books():
            store = Store()
            store.let(grown(store, kept(store, blocks), Rule(*four)))
            self.assertEqual(store.lying(), [])

    def test_a_book_again_has_the_same_root_kept_twice(self):
        for four, blocks in some_books():
            store = Store()
            root = grown(store, kept(store, blocks), Rule(*four))
            before = store.lying()
            self.assertEqual(grown(store, kept(store, blocks), Rule(*four)), root)
            self.assertEqual((store.lying(), store.holds(root)), (before, 2))
            store.let(root)
            self.assertEqual((store.lying(), store.holds(root)), (before, 1))
            store.let(root)
            self.assertEqual(store.lying(), [])

    def test_two_books_share_what_is_alike_and_go_one_by_one(self):
        for four in RULES:
            store = Store()
            one, other = some_blocks(30, 6, 1), some_blocks(30, 6, 1)[:20] + some_blocks(9, 6, 2)
            first = grown(store, kept(store, one), Rule(*four))
            alone = store.lying()
            second = grown(store, kept(store, other), Rule(*four))
            self.assertEqual(store.lying(), reached(store, [first, second]))
            for root, blocks in ((first, one), (second, other)):
                self.assertEqual([store.marks_of(number) for number in leaves(store, root)], blocks)
            store.let(second)
            self.assertEqual(store.lying(), alone)
            store.let(first)
            self.assertEqual(store.lying(), [])

    def test_other_keepings_stay(self):
        store = Store()
        numbers = kept(store, [[1], [2], [1], [3]])
        store.keep_again(numbers[0])
        root = grown(store, numbers, Rule(4, 3, 12, 4))
        store.let(root)
        self.assertEqual((store.lying(), store.holds(0)), ([0], 1))

    def test_one_block_many_times(self):
        for four in RULES:
            for many in (2, 3, 8, 9, 40):
                store = Store()
                numbers = kept(store, [[5, 6, 7]] * many)
                self.assertEqual(numbers, [0] * many)
                root = grown(store, numbers, Rule(*four))
                self.assertEqual((leaves(store, root), store.long(root)), (numbers, 3 * many))
                store.let(root)
                self.assertEqual(store.lying(), [])

    def test_six_thousand_blocks(self):
        store = Store()
        numbers = kept(store, [[at % 256, at // 256] for at in range(6000)])
        root = grown(store, numbers, Rule(4, 3, 12, 4))
        self.assertEqual(leaves(store, root), numbers)
        store.let(root)
        self.assertEqual(store.lying(), [])

    def test_nothing_is_opened(self):
        store = Store(self.fail)
        root = grown(store, kept(store, some_blocks(20, 5, 3)), Rule(4, 3, 12, 4))
        leaves(store, root)
        meeting(store, root, 0, store.long(root))

    def test_the_list_handed_in_stays(self):
        for many in (1, 2, 9):
            store = Store()
            numbers = kept(store, some_blocks(many, 3, 4))
            before = list(numbers)
            root = grown(store, numbers, Rule(4, 3, 12, 4))
            self.assertEqual(numbers, before)
            numbers.reverse()
            numbers.append(0)
            self.assertEqual(leaves(store, root), before)

    def test_the_arguments_have_their_names(self):
        store = Store()
        root = grown(store=store, numbers=kept(store, [[1]]), rule=Rule(4, 3, 12, 4))
        self.assertEqual(leaves(store=store, root=root), [0])
        self.assertEqual(meeting(store=store, root=root, a=0, b=1), [(0, 0)])


class FindingTest(unittest.TestCase):
    def setUp(self):
        self.store = NotingStore()

    def book(self, blocks, four):
        numbers = kept(self.store, blocks)
        return numbers, grown(self.store, numbers, Rule(*four))

    def by_words(self, numbers, blocks, a, b):
        found, begin = [], 0
        for number, block in zip(numbers, blocks):
            if [place for place in range(begin, begin + len(block)) if a <= place < b]:
                found.append((number, begin))
            begin += len(block)
        return found

    def test_none_has_no_leaves_and_nothing_meets(self):
        self.assertEqual(leaves(self.store, None), [])
        self.assertEqual(meeting(self.store, None, 0, 0), [])

    def test_one_block(self):
        numbers, root = self.book([[7, 8, 9]], (4, 3, 12, 4))
        self.assertEqual(leaves(self.store, root), numbers)
        for a in range(4):
            for b in range(a, 4):
                self.assertEqual(meeting(self.store, root, a, b), [(0, 0)] if a < b else [])

    def test_leaves_are_the_blocks_in_order(self):
        for four, blocks in some_books():
            self.store = NotingStore()
            numbers, root = self.book(blocks, four)
            self.assertEqual(leaves(self.store, root), numbers)

    def test_every_stretch_of_some_books(self):
        for four in RULES:
            for many, few in ((2, 2), (5, 2), (9, 9), (12, 3)):
                self.store = NotingStore()
                blocks = some_blocks(many, few, 5)
                numbers, root = self.book(blocks, four)
                long = sum(len(block) for block in blocks)
                for a in range(long + 1):
                    for b in range(a, long + 1):
                        wanted = self.by_words(numbers, blocks, a, b)
                        self.assertEqual(meeting(self.store, root, a, b), wanted)

    def test_borders_of_forty_blocks(self):
        for four in RULES:
            self.store = NotingStore()
            blocks = some_blocks(40, 12, 6)
            numbers, root = self.book(blocks, four)
            begin = 0
            for number, block in zip(numbers, blocks):
                end = begin + len(block)
                self.assertEqual(meeting(self.store, root, begin, end), [(number, begin)])
                self.assertEqual(meeting(self.store, root, begin, begin + 1), [(number, begin)])
                self.assertEqual(meeting(self.store, root, end - 1, end), [(number, begin)])
                self.assertEqual(meeting(self.store, root, begin, begin), [])
                self.assertEqual(meeting(self.store, root, end, end), [])
                begin = end
            self.assertEqual(meeting(self.store, root, 0, begin), self.by_words(numbers, blocks, 0, begin))

    def test_only_knots_that_meet_are_gone_through(self):
        blocks = [[at] * (at % 5 + 1) for at in range(40)]
        for four in RULES:
            self.store = NotingStore()
            numbers, root = self.book(blocks, four)
            long = self.store.long(root)
            for a, b in ((0, 0), (long, long), (0, 1), (5, 20), (long - 1, long), (long // 2, long // 2 + 1)):
                self.store.noted = []
                met = meeting(self.store, root, a, b)
                noted = list(self.store.noted)
                above = self.knots_above(root, [number for number, begin in met])
                self.assertEqual([number for number in noted if number not in above], [])

    # Where all blocks are unlike, a knot above a block that meets is one that meets.
    def knots_above(self, root, blocks):
        return [number for number in reached(self.store, [root]) if set(leaves(self.store, number)) & set(blocks)]

    def test_a_book_far_longer_than_could_be_gone_through(self):
        at = self.store.keep_block([1, 2, 3])
        for turn in range(120):
            at = self.store.keep_knot([at, at])
        long = 3 * 2 ** 120
        for place in (0, 3, 3 * 2 ** 60, 3 * (10 ** 30), long - 3):
            self.assertEqual(meeting(self.store, at, place, place), [])
            self.assertEqual(meeting(self.store, at, place, place + 1), [(0, place)])
            self.assertEqual(meeting(self.store, at, place + 2, place + 3), [(0, place)])
        self.assertEqual(meeting(self.store, at, 3 * 10 ** 30 - 1, 3 * 10 ** 30 + 1), [
            (0, 3 * 10 ** 30 - 3), (0, 3 * 10 ** 30)])

    def test_a_root_higher_than_calls_go(self):
        at = self.store.keep_block([1, 2])
        for turn in range(3000):
            at = self.store.keep_knot([at])
        self.assertEqual(leaves(self.store, at), [0])
        self.assertEqual(meeting(self.store, at, 1, 2), [(0, 0)])

    def test_the_lists_told_are_new(self):
        numbers, root = self.book(some_blocks(9, 3, 8), (4, 3, 12, 4))
        for ask in (lambda: leaves(self.store, root), lambda: meeting(self.store, root, 1, 9),
                    lambda: leaves(self.store, None), lambda: meeting(self.store, None, 0, 0)):
            told, again = ask(), ask()
            told.append((5, 5))
            told.reverse()
            self.assertEqual(ask(), again)


if __name__ == "__main__":
    unittest.main()

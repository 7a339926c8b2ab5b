import random
import unittest

import slowly
from making import some_text
from seekpress.blocks import opened, pressed
from seekpress.errors import NoBlock, NoHold, NoKids, NoThing, PressError
from seekpress.store import Store

FORTY = 10 ** 40 - 1
NO_BLOCKS = ([], [0] * 49, [7] * 6000, [256], [-1], [1, 2, FORTY], [-FORTY])


# A store by the document's words: what lies there, and how often each was kept; all else is found out anew.
class Model:
    def __init__(self):
        self.things = {}
        self.kept = {}
        self.came = 0

    def keep(self, thing):
        number = next((number for number in self.things if self.things[number] == thing), None)
        if number is None:
            number = self.came
            self.came += 1
            self.things[number] = thing
            self.kept[number] = 0
        self.kept[number] += 1
        return number

    def keep_block(self, block):
        if not 1 <= len(block) <= 48 or not all(0 <= mark <= 255 for mark in block):
            return NoBlock
        return self.keep(("block", list(block)))

    def keep_knot(self, kids):
        if not all(kid in self.things for kid in kids):
            return NoThing
        if len({self.level(kid) for kid in kids}) != 1:
            return NoKids
        return self.keep(("knot", list(kids)))

    def keep_again(self, number):
        if number not in self.things:
            return NoThing
        self.kept[number] += 1

    def let(self, number):
        if number not in self.things:
            return NoThing
        if not self.kept[number]:
            return NoHold
        self.kept[number] -= 1
        gone = [number for number in self.things if not self.holds(number)]
        while gone:
            self.things.pop(gone[0])
            gone = [number for number in self.things if not self.holds(number)]

    def kids(self, number):
        kind, within = self.things[number]
        return list(within) if kind == "knot" else []

    def holds(self, number):
        return self.kept[number] + sum(self.kids(other).count(number) for other in self.things)

    def level(self, number):
        kids = self.kids(number)
        return 1 + self.level(kids[0]) if kids else 0

    def text(self, number):
        kids = self.kids(number)
        return [mark for kid in kids for mark in self.text(kid)] if kids else list(self.things[number][1])

    # The sign of a knot is that of its last block, not that of its text: a block may have fewer than three marks.
    def last_block(self, number):
        kids = self.kids(number)
        return self.last_block(kids[-1]) if kids else self.things[number][1]

    def told(self, number):
        return (self.level(number), len(self.text(number)), slowly.sign(self.last_block(number)),
                self.holds(number), self.kids(number))


def told_by(store, number):
    return store.level(number), store.long(number), store.sign(number), store.holds(number), store.kids(number)


def asked_of(number):
    return [lambda store: store.level(number), lambda store: store.long(number), lambda store: store.sign(number),
            lambda store: store.holds(number), lambda store: store.kids(number), lambda store: store.bytes_of(number),
            lambda store: store.marks_of(number), lambda store: store.keep_again(number),
            lambda store: store.let(number), lambda store: store.keep_knot([number])]


def all_of(store):
    return [(number,) + told_by(store, number) for number in store.lying()]


class StoreTest(unittest.TestCase):
    def refused(self, kind, store, deed):
        before = all_of(store)
        with self.assertRaises(PressError) as taken:
            deed(store)
        self.assertIs(taken.exception.__class__, kind)
        self.assertEqual(all_of(store), before)

    def like(self, store, model):
        self.assertEqual(store.lying(), sorted(model.things))
        for number in store.lying():
            self.assertEqual(told_by(store, number), model.told(number))
            if model.level(number):
                for deed in (store.bytes_of, store.marks_of):
                    with self.assertRaises(NoBlock):
                        deed(number)
            else:
                self.assertEqual(store.marks_of(number), model.text(number))
                self.assertEqual(store.bytes_of(number), slowly.pressed(model.text(number)))

    def test_a_new_store_is_empty(self):
        self.assertEqual(Store().lying(), [])

    def test_one_block(self):
        store = Store()
        self.assertEqual(store.keep_block([7, 8, 9, 10]), 0)
        self.assertEqual(store.lying(), [0])
        self.assertEqual(told_by(store, 0), (0, 4, 8 + 5 * 9 + 11 * 10, 1, []))
        self.assertEqual(store.bytes_of(0), pressed([7, 8, 9, 10]))
        self.assertEqual(store.marks_of(0), [7, 8, 9, 10])

    def test_one_knot(self):
        store = Store()
        store.keep_block([1, 2])
        store.keep_block([3])
        self.assertEqual(store.keep_knot([0, 1]), 2)
        self.assertEqual(told_by(store, 2), (1, 3, 33, 1, [0, 1]))
        self.assertEqual([store.holds(number) for number in (0, 1)], [2, 2])
        self.assertEqual(store.keep_knot([2]), 3)
        self.assertEqual(told_by(store, 3), (2, 3, 33, 1, [2]))
        self.assertEqual(store.holds(2), 2)
        self.assertEqual(store.holds(0), 2)

    def test_numbers_come_in_order_and_none_twice(self):
        store = Store()
        self.assertEqual([store.keep_block([mark]) for mark in (5, 4, 5, 3)], [0, 1, 0, 2])
        self.assertEqual(store.keep_knot([2, 1]), 3)
        store.let(1)
        store.let(3)
        self.assertEqual(store.lying(), [0, 2])
        self.assertEqual(store.keep_block([4]), 4)
        self.assertEqual(store.keep_knot([2, 4]), 5)
        for number in (0, 0, 2, 4, 5):
            store.let(number)
        self.assertEqual(store.lying(), [])
        self.assertEqual(store.keep_block([5]), 6)

    def test_a_refusal_gives_no_number(self):
        store = Store()
        store.keep_block([1])
        for block in NO_BLOCKS:
            self.refused(NoBlock, store, lambda asked: asked.keep_block(block))
        self.refused(NoKids, store, lambda asked: asked.keep_knot([]))
        self.refused(NoThing, store, lambda asked: asked.keep_knot([0, 1]))
        self.assertEqual(store.keep_block([2]), 1)

    def test_like_things_are_kept_once_while_they_lie_there(self):
        store = Store()
        for turn in range(1, 4):
            self.assertEqual(store.keep_block([1, 2, 3]), 0)
            self.assertEqual(store.holds(0), turn)
        for turn in range(1, 4):
            self.assertEqual(store.keep_knot([0, 0]), 1)
            self.assertEqual((store.holds(1), store.holds(0)), (turn, 5))
        self.assertEqual(store.lying(), [0, 1])
        for turn in range(3):
            store.let(1)
        self.assertEqual((store.lying(), store.holds(0)), ([0], 3))
        self.assertEqual(store.keep_knot([0, 0]), 2)

    def test_unlike_things_are_not_one(self):
        store = Store()
        one, other = store.keep_block([1]), store.keep_block([1, 1])
        knots = [store.keep_knot(kids) for kids in ([one], [one, one], [one, other], [other, one], [other])]
        self.assertEqual(knots, [2, 3, 4, 5, 6])
        # The bytes of a block, as numbers, may be those of a knot's kids.
        store = Store()
        for mark in range(130):
            store.keep_block([mark])
        data = store.bytes_of(0)
        self.assertEqual(data, [124])
        self.assertEqual(store.keep_knot(data), 130)
        self.assertEqual(store.kids(130), [124])
        self.assertEqual(store.keep_block([0]), 0)

    def test_a_kid_at_several_places(self):
        store = Store()
        store.keep_block([9])
        self.assertEqual(store.keep_knot([0, 0, 0]), 1)
        self.assertEqual((store.holds(0), store.long(1), store.kids(1)), (4, 3, [0, 0, 0]))
        store.let(0)
        self.assertEqual(store.holds(0), 3)
        self.refused(NoHold, store, lambda asked: asked.let(0))
        self.assertEqual(store.keep_knot([1, 1]), 2)
        store.let(1)
        store.let(2)
        self.assertEqual(store.lying(), [])

    def test_a_thing_without_holds_is_gone_and_so_down_its_kids(self):
        store = Store()
        for mark in range(4):
            store.keep_block([mark])
        store.keep_knot([0, 1])
        store.keep_knot([1, 2])
        store.keep_knot([4, 5])
        for number in (0, 1, 2, 4, 5):
            store.let(number)
        self.assertEqual(store.lying(), [0, 1, 2, 3, 4, 5, 6])
        store.keep_again(5)
        store.let(6)
        self.assertEqual(store.lying(), [1, 2, 3, 5])
        self.assertEqual([store.holds(number) for number in store.lying()], [1, 1, 1, 1])
        store.let(5)
        self.assertEqual(store.lying(), [3])

    def test_keep_again_and_let_tell_nothing(self):
        store = Store()
        store.keep_block([1])
        self.assertIsNone(store.keep_again(0))
        self.assertEqual(store.holds(0), 2)
        self.assertIsNone(store.let(0))
        self.assertEqual(store.holds(0), 1)
        self.assertIsNone(store.let(0))
        self.assertEqual(store.lying(), [])

    def test_a_named_thing_can_be_kept_again_by_its_number(self):
        store = Store()
        store.keep_block([1])
        store.keep_knot([0])
        store.let(0)
        self.refused(NoHold, store, lambda asked: asked.let(0))
        store.keep_again(0)
        store.let(1)
        self.assertEqual((store.lying(), store.holds(0)), ([0], 1))

    def test_numbers_of_nothing(self):
        store = Store()
        for number in (0, 1, -1, FORTY, -FORTY):
            for deed in asked_of(number):
                self.refused(NoThing, store, deed)
        for mark in range(3):
            store.keep_block([mark])
        store.keep_knot([0, 1])
        store.let(2)
        for number in (2, 4, 5, -1, -2, -4, FORTY, -FORTY):
            for deed in asked_of(number):
                self.refused(NoThing, store, deed)

    def test_no_thing_comes_ahead_of_no_kids(self):
        store = Store()
        store.keep_block([1])
        store.keep_knot([0])
        self.refused(NoKids, store, lambda asked: asked.keep_knot([]))
        for kids in ([0, 1], [1, 0], [0, 0, 1], [1, 1, 0]):
            self.refused(NoKids, store, lambda asked: asked.keep_knot(kids))
        for kids in ([0, 1, 2], [2, 0, 1], [0, -1], [FORTY], [1, 0, FORTY], [-1, 1, 0]):
            self.refused(NoThing, store, lambda asked: asked.keep_knot(kids))

    def test_knots_where_a_block_is_asked(self):
        store = Store()
        store.keep_block([1])
        store.keep_knot([0])
        store.keep_knot([1])
        for number in (1, 2):
            self.refused(NoBlock, store, lambda asked: asked.bytes_of(number))
            self.refused(NoBlock, store, lambda asked: asked.marks_of(number))

    def test_blocks_of_all_sizes(self):
        store, model = Store(), Model()
        for many in list(range(1, 49)):
            for below in (1, 3, 256):
                block = some_text(many, below, 0)
                self.assertEqual(store.keep_block(block), model.keep_block(block))
        self.like(store, model)

    def test_rows_of_deeds_against_the_model(self):
        for seed in range(12):
            source = random.Random(seed)
            store, model = Store(), Model()
            for turn in range(150):
                self.one_deed(source, store, model)
                self.like(store, model)

    def one_deed(self, source, store, model):
        numbers = sorted(model.things) * 4 + [-1, source.randrange(model.came + 2), 10 ** 9]
        deed = source.choice(("keep_block", "keep_knot", "keep_knot", "keep_again", "let", "let", "let"))
        if deed == "keep_block":
            handed = source.choice((some_text(source.randrange(1, 4), 2, source.randrange(9)),) * 9 + NO_BLOCKS[:3])
        elif deed == "keep_knot":
            level = source.randrange(3)
            like = [number for number in model.things if model.level(number) == level] or numbers
            handed = [source.choice(like if source.randrange(9) else numbers) for at in range(source.randrange(4))]
        else:
            handed = source.choice(numbers)
        told = getattr(model, deed)(handed)
        if isinstance(told, type):
            self.refused(told, store, lambda asked: getattr(asked, deed)(handed))
        else:
            self.assertEqual(getattr(store, deed)(handed), told)

    def test_knots_upon_knots_higher_than_calls_go(self):
        store = Store()
        at = store.keep_block([1, 2])
        for turn in range(5000):
            above = store.keep_knot([at])
            store.let(at)
            at = above
        self.assertEqual((store.level(at), store.long(at), store.sign(at)), (5000, 2, 27))
        self.assertEqual(len(store.lying()), 5001)
        store.let(at)
        self.assertEqual(store.lying(), [])

    def test_longs_of_many_figures(self):
        store = Store()
        at = store.keep_block([1, 2, 3])
        for turn in range(120):
            at = store.keep_knot([at, at])
        self.assertEqual(store.long(at), 3 * 2 ** 120)
        self.assertEqual(store.sign(at), 1 + 10 + 33)

    def test_six_thousand_kids(self):
        store = Store()
        store.keep_block([1])
        store.keep_knot([0] * 6000)
        self.assertEqual((store.holds(0), store.long(1), store.kids(1)), (6001, 6000, [0] * 6000))
        store.let(1)
        self.assertEqual(store.holds(0), 1)

    def test_lists_handed_in_may_be_changed_later(self):
        store = Store()
        block = [1, 2, 3]
        store.keep_block(block)
        self.assertEqual(block, [1, 2, 3])
        block[2] = 9
        block.append(4)
        self.assertEqual((store.marks_of(0), store.long(0), store.sign(0)), ([1, 2, 3], 3, 44))
        kids = [0, 0]
        store.keep_knot(kids)
        self.assertEqual(kids, [0, 0])
        kids.clear()
        self.assertEqual((store.kids(1), store.long(1)), ([0, 0], 6))
        kids.append(0)
        store.let(1)
        self.assertEqual((store.holds(0), store.lying()), (1, [0]))

    def test_lists_told_may_be_changed(self):
        store = Store()
        store.keep_block([1, 2, 3])
        store.keep_knot([0, 0])
        for ask in (lambda: store.lying(), lambda: store.kids(0), lambda: store.kids(1), lambda: store.bytes_of(0),
                    lambda: store.marks_of(0)):
            told, again = ask(), ask()
            told.append(1)
            told.append(0)
            told.reverse()
            self.assertEqual(ask(), again)
        self.assertEqual((store.keep_block([1, 2, 3]), store.keep_knot([0, 0])), (0, 1))

    def test_stores_do_not_hang_on_each_other(self):
        one, other = Store(), Store()
        one.keep_block([1])
        self.assertEqual(other.lying(), [])
        self.assertEqual(other.keep_block([2]), 0)
        self.assertEqual((one.marks_of(0), other.marks_of(0)), ([1], [2]))

    def test_the_arguments_have_their_names(self):
        store = Store(opener=None)
        self.assertEqual((store.keep_block(block=[1]), store.keep_knot(kids=[0])), (0, 1))
        store.keep_again(number=0)
        store.let(number=0)
        told = (store.level(number=1), store.long(number=1), store.sign(number=1), store.holds(number=1),
                store.kids(number=1), store.bytes_of(number=0), store.marks_of(number=0))
        self.assertEqual(told, (1, 1, 11, 1, [0], pressed([1]), [1]))


class OpenerTest(unittest.TestCase):
    def setUp(self):
        self.asked = []
        self.answers = []
        self.store = Store(self.opener)

    def opener(self, data):
        self.asked.append(data)
        self.answers.append([len(self.asked)] * 3)
        return self.answers[-1]

    def test_it_is_asked_once_each_time_for_the_bytes_and_its_marks_are_told(self):
        self.store.keep_block([1, 2, 3])
        self.store.keep_block([5] * 40)
        self.assertEqual(self.store.marks_of(1), [1, 1, 1])
        self.assertEqual(self.store.marks_of(0), [2, 2, 2])
        self.assertEqual(self.store.marks_of(1), [3, 3, 3])
        self.assertEqual(self.asked, [pressed([5] * 40), pressed([1, 2, 3]), pressed([5] * 40)])
        self.assertTrue(all(isinstance(data, list) for data in self.asked))

    def test_nothing_else_asks_it(self):
        store = self.store
        for block in ([1, 2, 3], [4] * 30, [1, 2, 3]):
            store.keep_block(block)
        store.keep_knot([0, 1])
        store.keep_knot([2, 2])
        store.keep_again(1)
        all_of(store)
        store.bytes_of(0)
        for deed in asked_of(99) + [lambda asked: asked.marks_of(2), lambda asked: asked.bytes_of(3),
                                    lambda asked: asked.keep_block([]), lambda asked: asked.keep_knot([0, 2])]:
            with self.assertRaises(PressError):
                deed(store)
        for number in (0, 0, 1, 1, 2, 3):
            store.let(number)
        self.assertEqual(store.lying(), [])
        self.assertEqual(self.asked, [])

    def test_the_lists_that_go_to_and_fro_are_new(self):
        self.store.keep_block([1, 2, 3])
        told = self.store.marks_of(0)
        told.append(9)
        self.assertEqual(self.answers, [[1, 1, 1]])
        self.asked[0].append(5)
        self.assertEqual(self.store.bytes_of(0), pressed([1, 2, 3]))
        self.store.marks_of(0)
        self.assertEqual(self.asked[1], pressed([1, 2, 3]))
        told = self.store.marks_of(0)
        self.answers[-1].clear()
        self.assertEqual(told, [3, 3, 3])

    def test_an_opener_that_tells_one_list_each_time(self):
        one = [1, 2]
        store = Store(lambda data: one)
        store.keep_block([7])
        store.marks_of(0).append(3)
        self.assertEqual(store.marks_of(0), [1, 2])

    def test_the_documents_own_opener(self):
        store = Store(opened)
        store.keep_block([1, 2, 3])
        self.assertEqual(store.marks_of(0), [1, 2, 3])


if __name__ == "__main__":
    unittest.main()

import inspect
import unittest

import reading
import slowly
from making import some_text
from plainly import RULES, done, some_deeds
from seekpress.container import container
from seekpress.errors import NoMake
from seekpress.makes import Makes
from seekpress.rule import Rule

FOUR = (4, 3, 12, 4)


def made_of(text, four=FOUR):
    makes = Makes(Rule(*four))
    makes.new("a", text)
    return makes


class ContainerTest(unittest.TestCase):
    def test_without_marks(self):
        self.assertEqual(container(made_of([]), "a"), slowly.frame(131, 0, [0] * 8 + [16]))

    def test_one_block_by_hand(self):
        data = container(made_of([1]), "a")
        # The bits 0, 1, 0 0 0 0 0 0 0 1, laid in two low bytes.
        self.assertEqual(data[:9], slowly.frame(128, 0, [32, 16]))
        self.assertEqual(data[9:24], slowly.frame(130, 1, [1, 1, 0, 0, 0, 0, 0, 1]))
        self.assertEqual(data[24:], slowly.frame(131, 2, [0, 0, 9, 0, 0, 1, 0, 0, 40]))

    def test_a_block_and_a_knot_that_come_again_by_hand(self):
        # Four blocks [0, 0, 0], in two groups of two, so that one knot comes twice in the root.
        data = container(made_of([0] * 12), "a")
        kinds = [(kind, number) for place, kind, number, body, after in reading.frames(data)]
        self.assertEqual(kinds, [(128, 0), (129, 1), (129, 2), (129, 3), (130, 4), (130, 5), (131, 6)])
        found = reading.frames(data)
        self.assertEqual([one[3] for one in found[1:4]], [[0, 0]] * 3)
        self.assertEqual(reading.kids(found[4][3]), [(0, 3), (0, 3)])
        self.assertEqual((found[5][3][0], reading.kids(found[5][3])), (2, [(found[4][0], 6)] * 2))
        self.assertEqual(reading.end(data), [found[5][0], 12, len(data)])

    def test_an_again_names_the_frame_of_the_block_not_of_another_again(self):
        data = container(made_of([1, 2, 3, 5, 8, 9, 0, 0, 0] + [7, 7, 0, 0, 0] + [0] * 9), "a")
        by_number = {one[2]: one for one in reading.frames(data)}
        agains = [one for one in by_number.values() if one[1] == 129]
        self.assertGreater(len(agains), 1)
        for one in agains:
            self.assertEqual(by_number[reading.number(one[3])][1], 128)

    def test_by_words(self):
        for four in RULES:
            for below in (1, 2, 3, 256):
                for many in list(range(0, 20)) + [60, 200]:
                    with self.subTest(four=four, below=below, many=many):
                        text = some_text(many, below, 2)
                        self.assertEqual(container(made_of(text, four), "a"), slowly.container(text, four))

    def test_some_hundred_frames(self):
        text = some_text(3000, 256, 1)
        data = container(made_of(text, (1, 3, 3, 2)), "a")
        self.assertEqual(data, slowly.container(text, (1, 3, 3, 2)))
        self.assertGreater(len(reading.frames(data)), 1000)

    def test_walked_frame_by_frame(self):
        for below in (2, 256):
            text = some_text(300, below, 1)
            data = container(made_of(text), "a")
            found = reading.frames(data)
            self.assertEqual([one[2] for one in found], list(range(len(found))))
            kinds = [one[1] for one in found]
            self.assertEqual(kinds, sorted(kinds, key=lambda kind: max(kind, 129)))
            self.assertEqual(kinds.count(131), 1)
            self.assertEqual(reading.end(data)[1:], [300, len(data)])
            longs = {one[0]: len(slowly.opened(one[3])) for one in found if one[1] == 128}
            levels = {place: 0 for place in longs}
            for place, kind, number, body, after in [one for one in found if one[1] == 130]:
                self.assertEqual([longs[kid] for kid, long in reading.kids(body)], [x[1] for x in reading.kids(body)])
                self.assertEqual({levels[kid] for kid, long in reading.kids(body)}, {body[0] - 1})
                longs[place], levels[place] = sum(long for kid, long in reading.kids(body)), body[0]
            rising = [one[3][0] for one in found if one[1] == 130]
            self.assertEqual(rising, sorted(rising))
            self.assertEqual(longs[reading.end(data)[0]], 300)
            self.assertEqual(len({tuple(one[3]) for one in found if one[1] != 129}),
                             len([one for one in found if one[1] != 129]))

    def test_behind_deeds(self):
        for four in RULES[:3]:
            makes = Makes(Rule(*four))
            for deed, texts in some_deeds(f"{four} container", 3, 50, 60):
                for name, text in texts.items():
                    self.assertEqual(container(makes, name), slowly.container(text, four))
                done(deed, makes)

    def test_it_opens_nothing_and_changes_nothing(self):
        asked = []
        makes = Makes(Rule(*FOUR), asked.append)
        makes.new("a", some_text(80, 2, 1))
        store = makes.store()
        before = [(number, store.holds(number)) for number in store.lying()]
        first = container(makes, "a")
        self.assertEqual((asked, [(number, store.holds(number)) for number in store.lying()]), ([], before))
        first.clear()
        self.assertEqual(container(makes, "a"), slowly.container(some_text(80, 2, 1), FOUR))

    def test_no_make(self):
        makes = made_of([1])
        for thing in ("b", "", None, ["a"], ("a",), 0, True):
            with self.assertRaises(NoMake):
                container(makes, thing)

    def test_the_arguments_have_their_names(self):
        self.assertEqual(list(inspect.signature(container).parameters), ["makes", "name"])


if __name__ == "__main__":
    unittest.main()

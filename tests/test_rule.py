import unittest

from seekpress.errors import NoRule
from seekpress.rule import Rule, is_mark, is_text

FORTY = 10 ** 40 - 1
GOOD = (4, 3, 12, 4)
NO_NUMBERS = (
    True, False, None, "", "4", "abc", [], [4], [True], (), (4,), (4, 3, 12, 4), [[4]], ([4],), [None, "a"],
)


def with_one(at, thing):
    return GOOD[:at] + (thing,) + GOOD[at + 1:]


class RuleTest(unittest.TestCase):
    def refused(self, four):
        with self.subTest(four=four):
            with self.assertRaises(NoRule):
                Rule(four[0], four[1], four[2], four[3])

    def taken(self, four):
        with self.subTest(four=four):
            told = Rule(four[0], four[1], four[2], four[3]).told()
            self.assertEqual(told, four)
            self.assertIsInstance(told, tuple)

    def test_ordinary_rules(self):
        for four in (GOOD, (7, 5, 20, 3), (16, 8, 48, 8), (1, 3, 3, 2), (64, 48, 48, 8)):
            self.taken(four)

    def test_part(self):
        for part in range(1, 65):
            self.taken(with_one(0, part))
        for part in (0, -1, 65, 66, -64):
            self.refused(with_one(0, part))

    def test_least_and_most(self):
        for least in range(-2, 52):
            for most in range(-2, 52):
                four = (4, least, most, 4)
                if least >= 3 and least <= most and most <= 48:
                    self.taken(four)
                else:
                    self.refused(four)

    def test_kids(self):
        for kids in range(2, 9):
            self.taken(with_one(3, kids))
        for kids in (1, 0, -1, -2, 9, 10):
            self.refused(with_one(3, kids))

    def test_numbers_of_forty_figures(self):
        for at in range(4):
            self.refused(with_one(at, FORTY))
            self.refused(with_one(at, -FORTY))
        self.refused((FORTY, FORTY, FORTY, FORTY))
        self.refused((4, FORTY, FORTY, 4))

    def test_other_things_in_the_place_of_a_number(self):
        for at in range(4):
            for thing in NO_NUMBERS:
                self.refused(with_one(at, thing))
        for thing in NO_NUMBERS:
            self.refused((thing, thing, thing, thing))

    def test_a_truth_is_no_part_though_python_counts_it_as_one(self):
        self.taken((1, 3, 12, 4))
        self.refused((True, 3, 12, 4))

    def test_other_things_beside_numbers_out_of_bounds(self):
        for thing in NO_NUMBERS:
            self.refused((0, thing, 12, 4))
            self.refused((thing, 3, 2, 4))
            self.refused((4, 3, thing, 9))
            self.refused((4, 49, 48, thing))

    def test_things_handed_in_stay(self):
        thing = [4, [3], "a"]
        self.refused(with_one(0, thing))
        self.refused(with_one(2, thing))
        self.assertEqual(thing, [4, [3], "a"])

    def test_told_is_told_again_and_rules_do_not_hang_on_each_other(self):
        one = Rule(4, 3, 12, 4)
        other = Rule(5, 6, 7, 8)
        self.assertEqual(one.told(), (4, 3, 12, 4))
        self.assertEqual(other.told(), (5, 6, 7, 8))
        self.refused((5, 6, 7, 9))
        self.assertEqual(one.told(), (4, 3, 12, 4))

    def test_each_number_is_told_by_itself(self):
        rule = Rule(5, 6, 7, 8)
        self.assertEqual((rule.part(), rule.least(), rule.most(), rule.kids()), rule.told())

    def test_the_arguments_have_their_names(self):
        self.assertEqual(Rule(part=5, least=6, most=7, kids=8).told(), (5, 6, 7, 8))


class IsMarkTest(unittest.TestCase):
    def test_whole_numbers(self):
        for number in list(range(-300, 600)) + [-FORTY, FORTY, 2 ** 32, 256 ** 3 + 5]:
            self.assertIs(is_mark(number), number >= 0 and number < 256)

    def test_other_things(self):
        for thing in NO_NUMBERS:
            with self.subTest(thing=thing):
                self.assertIs(is_mark(thing), False)

    def test_the_argument_has_its_name(self):
        self.assertIs(is_mark(thing=5), True)


class IsTextTest(unittest.TestCase):
    def test_lists_of_marks(self):
        for text in ([], [0], [255], [0, 255], list(range(256)), [7] * 6000):
            self.assertIs(is_text(text), True)

    def test_lists_with_another_thing_in_them(self):
        for thing in NO_NUMBERS + (-1, 256, FORTY, -FORTY):
            for text in ([thing], [thing, 5], [5, thing], [1, thing, 2], [5] * 5999 + [thing]):
                with self.subTest(thing=thing, many=len(text)):
                    self.assertIs(is_text(text), False)

    def test_things_that_are_no_lists(self):
        for thing in (True, False, None, 0, 5, -1, 255, FORTY, "", "5", "abc", (), (5,), (0, 255), ([5],)):
            with self.subTest(thing=thing):
                self.assertIs(is_text(thing), False)

    def test_lists_within_lists(self):
        deep = [5]
        for turn in range(500):
            deep = [deep]
        for thing in ([[]], [[5]], [[5], 5], [()], [(5,)], deep):
            self.assertIs(is_text(thing), False)

    def test_the_list_handed_in_stays(self):
        text = [1, True, None, [2]]
        is_text(text)
        self.assertEqual(text, [1, True, None, [2]])
        self.assertIs(text[1], True)
        marks = [3, 1, 2]
        is_text(marks)
        self.assertEqual(marks, [3, 1, 2])

    def test_the_argument_has_its_name(self):
        self.assertIs(is_text(thing=[5]), True)


if __name__ == "__main__":
    unittest.main()

import random
import unittest

import slowly
from making import some_text
from seekpress.cuts import blocks_of, cuts_of, groups_of, is_closed, sign_of
from seekpress.rule import Rule

FORTY = 10 ** 40 - 1
# Rules at their bounds among them: part of 1 and of 64, least as great as most, kids of 2 and of 8.
RULES = (
    (4, 3, 12, 4), (1, 3, 48, 2), (1, 3, 3, 2), (64, 3, 48, 8), (64, 48, 48, 8), (7, 5, 20, 3), (16, 8, 9, 5),
    (2, 3, 4, 2), (3, 10, 10, 4), (1, 48, 48, 2), (5, 3, 48, 8),
)


def some_texts():
    texts = [some_text(many, below, 0) for many in range(60) for below in (2, 256)]
    texts += [some_text(200, below, seed) for below in (1, 2, 3, 5, 256) for seed in range(4)]
    return texts + [[255] * 200, list(range(256)), [0, 255] * 100]


class SignTest(unittest.TestCase):
    def test_no_marks(self):
        self.assertEqual(sign_of([]), 0)

    def test_one_two_and_three_marks(self):
        self.assertEqual(sign_of([1]), 11)
        self.assertEqual(sign_of([7, 1]), 11 + 5 * 7)
        self.assertEqual(sign_of([100, 7, 1]), 11 + 5 * 7 + 100)
        self.assertEqual(sign_of([255]), 2805)
        self.assertEqual(sign_of([255, 255]), 4080)
        self.assertEqual(sign_of([255, 255, 255]), 4335)
        self.assertEqual(sign_of([0, 0, 0]), 0)

    def test_marks_further_ahead_are_not_in_it(self):
        self.assertEqual(sign_of([200, 100, 7, 1]), 146)
        self.assertEqual(sign_of([9] * 5997 + [100, 7, 1]), 146)

    def test_each_of_the_three_has_its_own_weight(self):
        for at, weight in ((2, 11), (1, 5), (0, 1)):
            for mark in (0, 1, 128, 255):
                text = [0, 0, 0]
                text[at] = mark
                self.assertEqual(sign_of(text), weight * mark)

    def test_some_texts(self):
        for text in some_texts():
            self.assertEqual(sign_of(text), slowly.sign(text))

    def test_the_list_handed_in_stays(self):
        text = [3, 1, 2, 5]
        sign_of(text)
        self.assertEqual(text, [3, 1, 2, 5])

    def test_the_argument_has_its_name(self):
        self.assertEqual(sign_of(text=[1]), 11)


class IsClosedTest(unittest.TestCase):
    def test_the_sign_closes_from_least_marks_on(self):
        rule = Rule(4, 5, 12, 4)
        # The sign of noughts is 0 and leaves no rest.
        for many in range(16):
            self.assertIs(is_closed([0] * many, rule), many >= 5)

    def test_a_sign_with_a_rest_closes_nothing_but_at_most_marks(self):
        rule = Rule(4, 5, 12, 4)
        for many in range(40):
            self.assertIs(is_closed([1] * many, rule), many == 12)

    def test_more_than_most_marks_are_closed_by_the_sign_alone(self):
        rule = Rule(4, 3, 5, 4)
        self.assertIs(is_closed([1, 1, 1, 1, 1], rule), True)
        self.assertIs(is_closed([1, 1, 1, 1, 1, 1], rule), False)
        self.assertIs(is_closed([1, 1, 1, 0, 0, 0], rule), True)
        self.assertIs(is_closed([1] * 5997 + [0, 0, 0], rule), True)
        self.assertIs(is_closed([1] * 6000, rule), False)

    def test_part_of_one_closes_at_least_marks(self):
        for least in (3, 4, 48):
            rule = Rule(1, least, 48, 2)
            for many in range(60):
                self.assertIs(is_closed(some_text(many, 256, 1), rule), many >= least)

    def test_least_as_great_as_most(self):
        rule = Rule(64, 7, 7, 2)
        for many in range(20):
            text = [1] * many
            self.assertIs(is_closed(text, rule), many == 7)

    def test_no_marks_are_not_closed(self):
        for four in RULES:
            self.assertIs(is_closed([], Rule(*four)), False)

    def test_rests_by_each_part(self):
        for part in range(1, 65):
            rule = Rule(part, 3, 48, 4)
            for mark in range(256):
                self.assertIs(is_closed([0, 0, mark, 0], rule), 5 * mark % part == 0)

    def test_some_texts_by_some_rules(self):
        for four in RULES:
            for text in some_texts():
                self.assertIs(is_closed(text, Rule(*four)), slowly.closed(text, four))

    def test_the_list_handed_in_stays_and_the_arguments_have_their_names(self):
        text = [3, 1, 2]
        self.assertIs(is_closed(text=text, rule=Rule(1, 3, 3, 2)), True)
        self.assertEqual(text, [3, 1, 2])


class BlocksTest(unittest.TestCase):
    def test_a_text_without_marks_has_no_block_and_one_cut(self):
        for four in RULES:
            self.assertEqual(blocks_of([], Rule(*four)), [])
            self.assertEqual(cuts_of([], Rule(*four)), [0])

    def test_by_hand(self):
        rule = Rule(4, 3, 5, 4)
        # Signs by four: 0 0 0 leaves none; 1 1 1 leaves 1 (17), so only most closes it.
        self.assertEqual(blocks_of([0, 0, 0, 1, 1, 1, 1, 1, 1], rule), [[0, 0, 0], [1, 1, 1, 1, 1], [1]])
        self.assertEqual(cuts_of([0, 0, 0, 1, 1, 1, 1, 1, 1], rule), [0, 3, 8])
        self.assertEqual(blocks_of([0, 0, 0, 1, 1, 1, 1, 1], rule), [[0, 0, 0], [1, 1, 1, 1, 1]])
        self.assertEqual(cuts_of([0, 0, 0, 1, 1, 1, 1, 1], rule), [0, 3, 8])

    def test_texts_shorter_than_least_are_one_block_that_is_not_closed(self):
        for four in RULES:
            for many in range(1, four[1]):
                text = [0] * many
                self.assertEqual(blocks_of(text, Rule(*four)), [text])
                self.assertEqual(cuts_of(text, Rule(*four)), [0])

    def test_blocks_against_the_words(self):
        for four in RULES:
            for text in some_texts():
                self.assertEqual(blocks_of(text, Rule(*four)), slowly.blocks(text, four))

    def test_joined_they_are_the_text_and_each_is_closed_at_once(self):
        for four in RULES:
            for text in some_texts():
                blocks = blocks_of(text, Rule(*four))
                self.assertEqual([mark for block in blocks for mark in block], text)
                for at, block in enumerate(blocks):
                    closed = [slowly.closed(block[:end], four) for end in range(len(block) + 1)]
                    self.assertNotIn(True, closed[:-1])
                    self.assertTrue(closed[-1] or at == len(blocks) - 1)
                    self.assertIn(len(block), range(1, four[2] + 1))

    def test_cuts_are_nought_and_the_places_behind_closed_blocks(self):
        for four in RULES:
            for text in some_texts():
                wanted, place = [0], 0
                for block in slowly.blocks(text, four):
                    place += len(block)
                    wanted += [place] if slowly.closed(block, four) else []
                cuts = cuts_of(text, Rule(*four))
                self.assertEqual(cuts, wanted)
                self.assertEqual(cuts, sorted(set(cuts)))

    def test_the_end_is_a_cut_just_where_the_last_block_is_closed(self):
        for four in RULES:
            for text in some_texts():
                if text:
                    last = blocks_of(text, Rule(*four))[-1]
                    ends = cuts_of(text, Rule(*four))[-1] == len(text)
                    self.assertEqual(ends, slowly.closed(last, four))

    def test_behind_a_cut_nothing_hangs_on_what_stands_ahead(self):
        for four in RULES:
            rule = Rule(*four)
            for text in some_texts()[::3]:
                blocks = blocks_of(text, rule)
                for at, cut in enumerate(cuts_of(text, rule)):
                    self.assertEqual(blocks_of(text[cut:], rule), blocks[at:])
                    self.assertEqual(blocks_of(text[:cut], rule), blocks[:at])

    def test_a_change_leaves_the_blocks_ahead_and_those_behind_the_first_common_cut(self):
        source = random.Random(7)
        common = 0
        for turn in range(300):
            rule = Rule(*RULES[turn % len(RULES)])
            old = some_text(200, source.choice((2, 4, 256)), turn)
            a = source.randrange(201)
            b = min(200, a + source.randrange(30))
            new = old[:a] + some_text(source.randrange(30), 4, turn + 1) + old[b:]
            old_cuts, new_cuts, more = cuts_of(old, rule), cuts_of(new, rule), len(new) - len(old)
            self.assertEqual([cut for cut in old_cuts if cut <= a], [cut for cut in new_cuts if cut <= a])
            ahead = len([cut for cut in old_cuts if cut <= a]) - 1
            self.assertEqual(blocks_of(old, rule)[:ahead], blocks_of(new, rule)[:ahead])
            shared = [cut for cut in old_cuts if cut >= b and cut + more in new_cuts]
            if shared:
                common += 1
                first = shared[0]
                at, other = old_cuts.index(first), new_cuts.index(first + more)
                self.assertEqual(blocks_of(old, rule)[at:], blocks_of(new, rule)[other:])
                self.assertEqual([cut + more for cut in old_cuts[at:]], new_cuts[other:])
        self.assertGreater(common, 100)

    def test_texts_of_six_thousand_marks(self):
        for below in (2, 256):
            text = some_text(6000, below, 5)
            self.assertEqual(blocks_of(text, Rule(64, 3, 48, 8)), slowly.blocks(text, (64, 3, 48, 8)))

    def test_the_list_handed_in_stays_and_the_lists_told_are_new(self):
        rule = Rule(4, 3, 12, 4)
        for text in ([], [1, 2], [5] * 12, some_text(100, 256, 9)):
            before = list(text)
            blocks, cuts = blocks_of(text, rule), cuts_of(text, rule)
            again, cuts_again = blocks_of(text, rule), cuts_of(text, rule)
            for block in blocks:
                block[0] = 77
                block.append(1)
            blocks.append([9])
            cuts.append(9)
            cuts[0] = 5
            self.assertEqual(text, before)
            self.assertEqual(blocks_of(text, rule), again)
            self.assertEqual(cuts_of(text, rule), cuts_again)
            text.append(1)
            self.assertEqual(again, blocks_of(before, rule))

    def test_the_arguments_have_their_names(self):
        rule = Rule(4, 3, 12, 4)
        self.assertEqual(blocks_of(text=[1], rule=rule), [[1]])
        self.assertEqual(cuts_of(text=[0, 0, 0], rule=rule), [0, 3])


class GroupsTest(unittest.TestCase):
    def test_no_signs_and_one(self):
        for four in RULES:
            for level in (1, 2, 12):
                self.assertEqual(groups_of([], level, Rule(*four)), [])
                for sign in (0, 1, 7, 4335):
                    self.assertEqual(groups_of([sign], level, Rule(*four)), [1])

    def test_by_hand(self):
        rule = Rule(4, 3, 12, 4)
        # 4 to 7 are odd by part at level 1, 0 to 3 and 8 to 11 even.
        self.assertEqual(groups_of([0, 0, 0], 1, rule), [2, 1])
        self.assertEqual(groups_of([4, 4, 4, 4, 4], 1, rule), [4, 1])
        self.assertEqual(groups_of([4, 7, 8, 4, 3], 1, rule), [3, 2])
        self.assertEqual(groups_of([8, 8, 8, 8, 8], 2, rule), [4, 1])
        self.assertEqual(groups_of([4, 4, 4, 4, 4], 2, rule), [2, 2, 1])
        self.assertEqual(groups_of([16, 16, 16, 16, 16], 2, rule), [2, 2, 1])
        self.assertEqual(groups_of([16, 16, 16, 16, 16], 3, rule), [4, 1])

    def test_the_first_thing_of_a_group_ends_none_but_at_the_end(self):
        rule = Rule(1, 3, 12, 8)
        self.assertEqual(groups_of([0, 1, 0, 0, 1, 1], 1, rule), [3, 3])
        self.assertEqual(groups_of([0, 1, 1, 1, 1, 1, 1, 1, 1, 0, 0], 1, rule), [8, 2, 1])

    def test_kids_of_two_make_pairs(self):
        for many in range(12):
            signs = some_text(many, 256, 3)
            wanted = [2] * (many // 2) + [1] * (many % 2)
            for level in range(1, 13):
                self.assertEqual(groups_of(signs, level, Rule(3, 3, 12, 2)), wanted)

    def test_each_level_and_each_part_against_the_words(self):
        source = random.Random(3)
        for four in RULES + ((1, 3, 12, 8), (2, 3, 12, 8), (64, 3, 12, 4)):
            for level in range(1, 13):
                for many in (2, 3, 8, 9, 40):
                    signs = [source.randrange(4336) for at in range(many)]
                    with self.subTest(four=four, level=level, many=many):
                        groups = groups_of(signs, level, Rule(*four))
                        self.assertEqual(groups, slowly.groups(signs, level, four))

    def test_a_group_of_one_only_at_the_end_and_none_above_kids(self):
        for four in RULES:
            for level in range(1, 13):
                signs = some_text(61, 4336, level)
                groups = groups_of(signs, level, Rule(*four))
                self.assertEqual(sum(groups), 61)
                self.assertNotIn(1, groups[:-1])
                self.assertTrue(all(1 <= size <= four[3] for size in groups))

    def test_levels_and_signs_of_forty_figures(self):
        rule = Rule(4, 3, 12, 8)
        self.assertEqual(groups_of([1, 2, 3, FORTY, 4], FORTY, rule), [2, 2, 1])
        self.assertEqual(groups_of([0, FORTY, FORTY - 4, 0], 1, rule), slowly.groups(
            [0, FORTY, FORTY - 4, 0], 1, (4, 3, 12, 8)))
        high = 4 * 2 ** 100
        self.assertEqual(groups_of([high] * 4, 101, rule), [4])
        self.assertEqual(groups_of([high] * 4, 100, rule), [2, 2])
        self.assertEqual(groups_of([high] * 4, 102, rule), [2, 2])

    def test_six_thousand_signs(self):
        signs = some_text(6000, 4336, 2)
        self.assertEqual(groups_of(signs, 3, Rule(4, 3, 12, 8)), slowly.groups(signs, 3, (4, 3, 12, 8)))

    def test_the_list_handed_in_stays_and_the_list_told_is_new(self):
        rule = Rule(4, 3, 12, 4)
        for signs in ([], [5], [4, 9, 8, 1]):
            before = list(signs)
            told = groups_of(signs, 1, rule)
            again = groups_of(signs, 1, rule)
            told.append(3)
            self.assertEqual(signs, before)
            self.assertEqual(groups_of(signs, 1, rule), again)

    def test_the_arguments_have_their_names(self):
        self.assertEqual(groups_of(signs=[1], level=1, rule=Rule(4, 3, 12, 4)), [1])


if __name__ == "__main__":
    unittest.main()

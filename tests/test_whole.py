"""All modules behind each other: deeds, containers, and all that reads these, against plain lists."""

import random
import unittest

import reading
import slowly
from plainly import RULES, Plain, done, some_deeds
from seekpress.container import container
from seekpress.desk import Desk
from seekpress.errors import Broken, PressError
from seekpress.feed import Feed
from seekpress.makes import Makes
from seekpress.notes import read_marks, show_marks
from seekpress.rescue import rescued
from seekpress.rule import Rule
from seekpress.shelf import Shelf


def fed(data, source):
    feed, at = Feed(), 0
    while at < len(data):
        size = source.randrange(12)
        feed.feed(data[at:at + size])
        at += size
    return feed.marks(), feed.ended()


class WholeTest(unittest.TestCase):
    def test_containers_tell_the_plain_text_to_all_that_read_them(self):
        source = random.Random(4)
        for four in RULES:
            makes, plain = Makes(Rule(*four)), Plain()
            for deed, texts in some_deeds(f"{four} whole", 4, 70, 40):
                done(deed, makes)
                done(deed, plain)
                for name, text in plain.texts.items():
                    with self.subTest(four=four, deed=deed, name=name):
                        data = container(makes, name)
                        self.assertEqual(data, slowly.container(text, four))
                        shelf = Shelf(len(data), lambda a, b: data[a:b])
                        a, b = sorted((source.randrange(len(text) + 1), source.randrange(len(text) + 1)))
                        self.assertEqual((shelf.long(), shelf.stretch(a, b)), (len(text), text[a:b]))
                        self.assertEqual(makes.stretch(name, a, b), text[a:b])
                        self.assertEqual(fed(data, source), (text, True))
                        self.assertEqual(rescued(data), (None, [(0, text)] if text else [], []))

    def test_one_bit_turned_is_seen_by_all_that_read(self):
        source = random.Random(5)
        for four in RULES:
            makes = Makes(Rule(*four))
            for deed, texts in some_deeds(f"{four} turned", 3, 60, 25):
                done(deed, makes)
                for name in makes.names():
                    self.one_bit(makes.text(name), container(makes, name), source)

    def one_bit(self, text, data, source):
        at = source.randrange(len(data))
        wrong = reading.turned(data, at, source.randrange(8))
        place = [one[0] for one in reading.frames(data) if one[0] <= at < one[4]][0]
        told = rescued(wrong)
        self.assertEqual(told[0], place)
        for begin, marks in told[1]:
            self.assertEqual(text[begin:begin + len(marks)], marks)
        ahead, states = reading.feeding(wrong)
        feed = Feed()
        if states[-1][2] is None:
            feed.feed(wrong)
        else:
            with self.assertRaises(Broken) as caught:
                feed.feed(wrong)
            self.assertEqual(caught.exception.place, place)
        self.assertEqual(feed.marks(), ahead)
        self.assertEqual(ahead, text[:len(ahead)])
        try:
            found = Shelf(len(wrong), lambda a, b: wrong[a:b]).stretch(0, len(text))
        except Broken as refusal:
            self.assertEqual(refusal.place, place)
        else:
            # Only an again, which no stretch needs, may be wrong.
            self.assertEqual((found, data[place]), (text, 129))

    def test_the_desk_and_the_makes_say_the_same(self):
        desk, plain = Desk(), Plain()
        for deed, texts in some_deeds("whole desk", 5, 50, 120):
            done(deed, plain)
            desk.say(" ".join(show_marks(thing) if isinstance(thing, list) else str(thing) for thing in deed))
            for name, text in plain.texts.items():
                data = read_marks(desk.say(f"container {name}"))
                self.assertEqual(desk.say(f"text {name}"), show_marks(text))
                self.assertEqual(data, slowly.container(text, (4, 3, 12, 4)))
                said = "none" + (f" / 0: {show_marks(text)}" if text else "")
                self.assertEqual(desk.say("rescue " + show_marks(data)), said)

    def test_like_blocks_are_kept_once_over_all_makes(self):
        for four in RULES:
            makes, plain = Makes(Rule(*four)), Plain()
            for deed, texts in some_deeds(f"{four} once", 2, 60, 40):
                done(deed, makes)
                done(deed, plain)
                store = makes.store()
                blocks = {tuple(block) for text in plain.texts.values() for block in slowly.blocks(text, four)}
                lying = [number for number in store.lying() if store.level(number) == 0]
                self.assertEqual(sorted(tuple(store.marks_of(number)) for number in lying), sorted(blocks))
                knots = [tuple(store.kids(number)) for number in store.lying() if store.level(number) > 0]
                self.assertEqual(len(knots), len(set(knots)))

    def test_refusals_stand_straight_under_their_base(self):
        for row in ("", "new a x", "text a", "new A 1", "rescue x"):
            with self.assertRaises(PressError) as caught:
                Desk().say(row)
            self.assertEqual(type(caught.exception).__bases__, (PressError,))
        self.assertEqual(PressError.__bases__, (ValueError,))

    def test_the_same_deeds_tell_the_same_each_time(self):
        answers = []
        for turn in range(2):
            desk = Desk()
            rows = [" ".join(show_marks(thing) if isinstance(thing, list) else str(thing) for thing in deed)
                    for deed, texts in some_deeds("same", 3, 40, 60)]
            answers.append([desk.say(row) for row in rows])
        self.assertEqual(answers[0], answers[1])


if __name__ == "__main__":
    unittest.main()

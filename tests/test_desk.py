import inspect
import random
import unittest

import reading
import slowly
from plainly import NAMES, Plain, done, some_deeds
from seekpress.container import container
from seekpress.desk import Desk
from seekpress.errors import NoMake, NoName, NoPlace, NoRow, NoText, PressError, Twice
from seekpress.makes import Makes
from seekpress.rescue import rescued
from seekpress.rule import Rule

FOUR = (4, 3, 12, 4)
# Rows with their answers, one behind another at one desk.
TALK = (
    ("names", "none"),
    ("new a 0 0 0 5 1 0 0 0 7", "none / 0 1 2"),
    ("names", "a"),
    ("blocks a", "0 1 2"),
    ("long a", "9"),
    ("text a", "0 0 0 5 1 0 0 0 7"),
    ("stretch a 2 5", "0 5 1"),
    ("stretch a 9 9", "none"),
    ("new b none", "none / none"),
    ("text b", "none"),
    ("blocks b", "none"),
    ("long b", "0"),
    ("twin a c", "none / none"),
    ("names", "a b c"),
    ("put a 4 2", "1 / 6"),
    ("text a", "0 0 0 5 2 1 0 0 0 7"),
    ("put a 10 none", "2 / none"),
    ("text c", "0 0 0 5 1 0 0 0 7"),
    ("take a 4 5", "6 / none"),
    ("blocks a", "0 1 2"),
    ("change a 0 3 none", "none / none"),
    ("text a", "5 1 0 0 0 7"),
    ("pour d a b", "2 / none"),
    ("pour e b a", "none / none"),
    ("pour f a a", "2 1 / 10"),
    ("text f", "5 1 0 0 0 7 5 1 0 0 0 7"),
    ("drop f", "ok"),
    ("part a 1 g h", "1 / 13 15"),
    ("text g", "5"),
    ("text h", "1 0 0 0 7"),
    ("names", "a b c d e g h"),
    ("container b", "131 0 0 0 9 0 0 0 0 0 0 0 0 16 3 16"),
    ("container g", "128 0 0 0 2 32 80 6 122 130 0 1 0 8 1 1 0 0 0 0 0 1 1 71 131 0 2 0 9 0 0 9 0 0 1 0 0 40 6 57"),
    ("rescue 131 0 0 0 9 0 0 0 0 0 0 0 0 16 3 16", "none"),
)
NO_ROWS = (
    "", " ", "  ", "nothing", "New a 1", "NAMES", "names ", " names", "names a", "names  ", "new", "new a", "new a ",
    "new  1", "new a  1", "new a 1 ", "new a 1  2", " new a 1", "new\ta 1", "put", "put a", "put a 0", "put a x 1",
    "put a -1 1", "put a 00 1", "put a 01 1", "put a +1 1", "put a 1.0 1", "put a 1234567890 1", "put a 0000000000 1",
    "put a  1", "put a \u0661 1", "put a \u00b2 1", "put a 1\n 1", "put a none 1", "change", "change a", "change a 0",
    "change a 0 1", "change a 0 x 1", "change a x 1 1", "change a 0 1 ", "change x y z w", "take a", "take a 0",
    "take a 0 1 2", "take a 0 b", "take a a 1", "take", "take a 0 1 ", "pour", "pour x", "pour x a", "pour x a b c",
    "pour x a ", "part a", "part a 1", "part a 1 x", "part a 1 x y z", "part a x y z", "part a 01 x y", "part", "twin",
    "twin a", "twin a x y", "twin a ", "drop", "drop a b", "drop a ", "drop ", "text", "text a b", "text ", "stretch",
    "stretch a", "stretch a 0", "stretch a 0 1 2", "stretch a 0 x", "stretch a 0 1000000000", "long", "long a b",
    "blocks", "blocks a b", "container", "container a b", "rescue", "rescue ", "rescue  1", "rescue 1 ", "root a",
    "say", "store", "a", "1", "none", "names\n", "rescued 1", "marks a", "put x 01 x", "change x 0 9999999999 x",
)
NO_TEXTS = (
    "new x 256", "new x 01", "new x a", "new x none 1", "new x 1 none", "new x -1", "new x 1\n", "new x 1\t2", "new a x",
    "new X x", "put a 0 256", "put x 0 256", "put a 99 x", "change a 0 1 256", "change a 1 0 x", "change x 5 1 00",
    "rescue 256", "rescue a", "rescue none none", "rescue 1 -1", "new x \u0661", "new x " + "9" * 5000,
)
REFUSED = (
    (NoMake, ("put x 0 1", "put x 99 1", "change x 0 0 1", "take x 1 0", "pour a x a", "pour y a x", "pour X x x",
              "part x 0 y z", "part x 99 a a", "twin x a", "twin x x", "drop x", "text x", "stretch x 0 0",
              "stretch x 1 0", "long x", "blocks x", "container x", "text A", "text 1", "drop abcdefghi", "long none",
              "text a\n", "drop \t")),
    (NoName, ("new A 1", "new abcdefghi 1", "new 1 1", "new a1 1", "new \t 1", "pour A a b", "part a 99 A x",
              "part a 0 a A", "part a 0 x 1", "twin a A", "twin a a\n")),
    (Twice, ("new a 1", "pour a a b", "part a 0 x x", "part a 99 x x", "part a 0 a x", "part a 0 x b", "twin a b",
             "twin a a")),
    (NoPlace, ("put a 10 1", "put a 999999999 1", "change a 0 10 1", "change a 2 1 1", "take a 5 4", "take a 10 10",
               "part a 10 x y", "stretch a 0 10", "stretch a 4 3", "stretch b 0 1", "put b 1 none")),
)


def written(numbers):
    return " ".join(str(number) for number in numbers) or "none"


def some_desk():
    desk = Desk()
    desk.say("new a 0 0 0 5 1 0 0 0 7")
    desk.say("new b none")
    return desk


def state(desk):
    names = desk.say("names").split(" ")
    return [(name, desk.say(f"text {name}"), desk.say(f"blocks {name}")) for name in names]


def row_of(deed):
    return " ".join(written(thing) if isinstance(thing, list) else str(thing) for thing in deed)


class TalkTest(unittest.TestCase):
    def test_rows_and_their_answers(self):
        desk = Desk()
        for row, answer in TALK:
            with self.subTest(row=row):
                self.assertEqual(desk.say(row), answer)

    def test_a_new_desk_has_no_names(self):
        some_desk()
        self.assertEqual(Desk().say("names"), "none")

    def test_rows_of_deeds(self):
        desk, makes = Desk(), Makes(Rule(*FOUR))
        for deed, texts in some_deeds("desk", 3, 60, 250):
            with self.subTest(deed=deed):
                answer = desk.say(row_of(deed))
                told = done(deed, makes)
                self.assertEqual(answer, "ok" if told is None else f"{written(told[0])} / {written(told[1])}")
                self.assertEqual(desk.say("names"), " ".join(makes.names()) or "none")
                for name in makes.names():
                    self.assertEqual(desk.say(f"text {name}"), written(makes.text(name)))
                    self.assertEqual(desk.say(f"long {name}"), str(makes.long(name)))
                    self.assertEqual(desk.say(f"blocks {name}"), written(makes.blocks(name)))
                    self.assertEqual(desk.say(f"container {name}"), written(container(makes, name)))
                    middle = makes.long(name) // 2
                    self.assertEqual(desk.say(f"stretch {name} 0 {middle}"), written(makes.text(name)[:middle]))

    def test_the_rule(self):
        desk = Desk()
        text = [int(byte) for byte in reading.turned([7] * 100, 50, 3)]
        desk.say("new a " + written(text))
        self.assertEqual(desk.say("container a"), written(slowly.container(text, FOUR)))

    def test_a_make_called_none(self):
        desk = Desk()
        desk.say("new none 1")
        self.assertEqual((desk.say("names"), desk.say("text none"), desk.say("twin none x")),
                         ("none", "1", "none / none"))

    def test_numbers_of_nine_figures(self):
        desk = some_desk()
        with self.assertRaises(NoPlace):
            desk.say("stretch a 0 999999999")
        with self.assertRaises(NoRow):
            desk.say("stretch a 0 1000000000")

    def test_numbers_of_blocks_beyond_marks(self):
        desk = Desk()
        for turn in range(100):
            desk.say("new a 1 2")
            desk.say("drop a")
        desk.say("new a 1")
        desk.say("twin a b")
        for turn in range(60):
            desk.say("put a 0 3")
            desk.say("take a 0 1")
        self.assertEqual(desk.say("put a 0 5"), "200 / 322")
        self.assertEqual(desk.say("blocks a"), "322")

    def test_six_thousand_marks(self):
        desk = Desk()
        desk.say("new a " + written([1, 2, 3] * 2000))
        self.assertEqual(desk.say("long a"), "6000")
        self.assertEqual(desk.say("text a"), written([1, 2, 3] * 2000))

    def test_the_arguments_have_their_names(self):
        self.assertEqual(list(inspect.signature(Desk).parameters), [])
        self.assertEqual(Desk().say(row="names"), "none")


class RescueRowTest(unittest.TestCase):
    def said(self, data):
        place, pieces, lost = rescued(data)
        answer = "none" if place is None else str(place)
        for begin, marks in pieces:
            answer += f" / {begin}: {written(marks)}"
        for begin, end in lost:
            answer += f" / lost {begin} " + ("-" if end is None else str(end))
        self.assertEqual(Desk().say("rescue " + written(data)), answer)

    def test_by_hand(self):
        desk = Desk()
        desk.say("new a 0 0 0 5 1 0 0 0 7")
        data = [int(word) for word in desk.say("container a").split(" ")]
        rows = (
            (data, "none / 0: 0 0 0 5 1 0 0 0 7"),
            (reading.turned(data, 9, 0), "9 / 0: 0 0 0 / 8: 7 / lost 3 8"),
            (reading.turned(data, 5, 1), "0 / 3: 5 1 0 0 0 7 / lost 0 3"),
            (reading.turned(data, len(data) - 1, 1), f"{len(data) - 16} / 0: 0 0 0 5 1 0 0 0 7"),
            (data[9:], "0 / 3: 5 1 0 0 0 7 / lost 0 3"),
            (data[:9], "9 / 0: 0 0 0 / lost 3 -"),
            (data[:12], "9 / 0: 0 0 0 / lost 3 -"),
            (data[:8], "0 / lost 0 -"),
            ([], "0 / lost 0 -"),
            (data[:-16], f"{len(data) - 16} / 0: 0 0 0 5 1 0 0 0 7 / lost 9 -"),
        )
        self.assertEqual(data[:9], slowly.frame(128, 0, slowly.pressed([0, 0, 0])))
        for wrong, answer in rows:
            with self.subTest(answer=answer):
                self.assertEqual(desk.say("rescue " + written(wrong)), answer)

    def test_all_ways(self):
        text = [0] * 9 + [5, 1, 0, 0, 0, 9, 8, 1] + [0] * 6 + [3]
        data = slowly.container(text, FOUR)
        for at in range(0, len(data), 3):
            self.said(reading.turned(data, at, at % 8))
            self.said(data[:at])
        for frame in reading.frames(data):
            self.said(data[:frame[0]] + data[frame[4]:])

    def test_other_bytes(self):
        source = random.Random(3)
        for turn in range(50):
            data = [source.choice((0, 9, 128, 131, 255)) for at in range(source.randrange(1, 30))]
            self.assertEqual(Desk().say("rescue " + written(data)).split(" ")[0], str(reading.wrong_place(data)))

    def test_it_leaves_the_makes_as_they_are(self):
        desk = some_desk()
        before = state(desk)
        desk.say("rescue 1 2 3")
        self.assertEqual(state(desk), before)


class RefusalTest(unittest.TestCase):
    def refused(self, desk, row, refusal):
        before = state(desk)
        with self.assertRaises(PressError) as caught:
            desk.say(row)
        self.assertIs(type(caught.exception), refusal)
        self.assertEqual(state(desk), before)

    def test_no_row(self):
        desk = some_desk()
        for row in NO_ROWS:
            with self.subTest(row=row):
                self.refused(desk, row, NoRow)

    def test_no_text(self):
        desk = some_desk()
        for row in NO_TEXTS:
            with self.subTest(row=row[:40]):
                self.refused(desk, row, NoText)

    def test_the_refusals_of_the_makes(self):
        desk = some_desk()
        for refusal, rows in REFUSED:
            for row in rows:
                with self.subTest(row=row):
                    self.refused(desk, row, refusal)

    def test_behind_refusals_the_desk_goes_on(self):
        desk = some_desk()
        for row in NO_ROWS + NO_TEXTS:
            with self.assertRaises(PressError):
                desk.say(row)
        # Knots have the numbers 3, 4 and 5, so that nothing was given out between.
        self.assertEqual(desk.say("new c 9"), "none / 6")

    def test_each_word_of_each_row_taken_away_or_doubled(self):
        desk, plain = some_desk(), Plain()
        plain.new("a", [0])
        for row in ("take a 0 1", "pour x a b", "part a 1 x y", "twin a x", "drop a", "text a", "stretch a 0 1", "long a",
                    "names", "blocks a", "container a"):
            words = row.split(" ")
            for at in range(len(words)):
                self.refused(desk, " ".join(words[:at] + words[at + 1:]), NoRow)
                self.refused(desk, " ".join(words[:at] + [""] + words[at:]), NoRow)
                self.refused(desk, " ".join(words[:at + 1] + ["0"] + words[at + 1:]), NoRow)
        self.assertEqual(len(NAMES), len(set(NAMES)))


if __name__ == "__main__":
    unittest.main()

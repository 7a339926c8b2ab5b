import inspect
import unittest

from making import some_text
from seekpress.errors import NoText, PressError
from seekpress.notes import read_marks, show_marks

WRITTEN = (
    ([], "none"), ([0], "0"), ([9], "9"), ([10], "10"), ([99], "99"), ([100], "100"), ([255], "255"),
    ([0, 0], "0 0"), ([1, 2, 3], "1 2 3"), ([255, 0, 10], "255 0 10"),
)
NO_TEXTS = (
    "", " ", "00", "01", "007", "0 00", "000", "256", "257", "999", "1000", "10000000000000000000000000000000000000000",
    "9" * 5000, "-1", "+1", "-0", "1 -2", "1  2", " 1", "1 ", " 1 ", "1\t2", "1\n", "\n1", "1\n2", "1\r", "1\x0b2",
    "1\u00a02", "\u0661", "\u00b2", "\uff11", "1_0", "1.0", "1e1", "0x1", "a", "one", "1 a", "None", "NONE", "none ",
    " none", "none none", "none 1", "1 none", "nones", "non", "1,2", "[1]", "1 2 256", "1 02", "none\n", "none 256",
)


class ShowTest(unittest.TestCase):
    def test_written(self):
        for marks, text in WRITTEN:
            self.assertEqual(show_marks(marks), text)

    def test_the_list_stays(self):
        marks = [3, 2, 1]
        show_marks(marks)
        self.assertEqual(marks, [3, 2, 1])

    def test_many(self):
        marks = some_text(6000, 256, 1)
        self.assertEqual(show_marks(marks), " ".join(f"{mark}" for mark in marks))

    def test_each_mark(self):
        for mark in range(256):
            self.assertEqual(show_marks([mark]), str(mark))


class ReadTest(unittest.TestCase):
    def test_written(self):
        for marks, text in WRITTEN:
            self.assertEqual(read_marks(text), marks)

    def test_each_mark(self):
        for mark in range(256):
            self.assertEqual(read_marks(f"{mark} {mark}"), [mark, mark])

    def test_each_number_above(self):
        for number in range(256, 1300):
            with self.assertRaises(NoText):
                read_marks(str(number))

    def test_no_texts(self):
        for text in NO_TEXTS:
            with self.subTest(text=text[:20]):
                with self.assertRaises(PressError) as caught:
                    read_marks(text)
                self.assertIs(type(caught.exception), NoText)

    def test_other_things(self):
        for thing in (None, 0, 7, True, [], [1], (), ("1",), ["none"]):
            with self.assertRaises(NoText):
                read_marks(thing)

    def test_each_text_of_few_signs(self):
        signs = ("", " ", "0", "1", "2", "9", "-", "\t")
        for text in {a + b + c + d for a in signs for b in signs for c in signs for d in signs}:
            words = text.split(" ")
            good = all(word in {str(mark) for mark in range(256)} for word in words)
            if good:
                self.assertEqual(read_marks(text), [int(word) for word in words])
            else:
                with self.assertRaises(NoText):
                    read_marks(text)

    def test_the_list_is_new(self):
        read_marks("none").append(1)
        read_marks("1 2").append(1)
        self.assertEqual((read_marks("none"), read_marks("1 2")), ([], [1, 2]))

    def test_there_and_back(self):
        for many in (0, 1, 2, 50, 6000):
            marks = some_text(many, 256, 3)
            self.assertEqual(read_marks(show_marks(marks)), marks)

    def test_the_arguments_have_their_names(self):
        self.assertEqual(list(inspect.signature(show_marks).parameters), ["marks"])
        self.assertEqual(list(inspect.signature(read_marks).parameters), ["text"])


if __name__ == "__main__":
    unittest.main()

import unittest

from seekpress import errors
from seekpress.errors import Broken, PressError

PLAIN = (
    "NoBits", "NoRule", "NoRepeat", "NoCode", "NoBlock", "NoThing", "NoKids", "NoHold",
    "NoMake", "NoName", "Twice", "NoPlace", "NoText", "NoRow",
)


def raised_by(name):
    kind = getattr(errors, name)
    return kind(7) if name == "Broken" else kind("words")


class ErrorsTest(unittest.TestCase):
    def test_the_base_stands_straight_under_value_error(self):
        self.assertEqual(PressError.__bases__, (ValueError,))

    def test_each_other_one_stands_straight_under_the_base(self):
        for name in PLAIN + ("Broken",):
            with self.subTest(name):
                self.assertEqual(getattr(errors, name).__bases__, (PressError,))

    def test_the_classes_bear_their_own_names(self):
        for name in PLAIN + ("Broken", "PressError"):
            self.assertEqual(getattr(errors, name).__name__, name)

    def test_none_takes_another_one(self):
        for name in PLAIN + ("Broken",):
            for other in PLAIN + ("Broken",):
                with self.subTest(name=name, other=other):
                    taken = isinstance(raised_by(name), getattr(errors, other))
                    self.assertEqual(taken, name == other)

    def test_each_is_taken_by_itself_by_the_base_and_by_value_error(self):
        for name in PLAIN + ("Broken",):
            for kind in (getattr(errors, name), PressError, ValueError):
                with self.subTest(name=name, kind=kind):
                    with self.assertRaises(kind):
                        raise raised_by(name)

    def test_the_base_is_none_of_the_others(self):
        for name in PLAIN + ("Broken",):
            self.assertNotIsInstance(PressError("words"), getattr(errors, name))

    def test_broken_tells_its_place(self):
        for place in (0, 1, 16, 99999, 10 ** 40 - 1):
            with self.assertRaises(Broken) as taken:
                raise Broken(place)
            self.assertEqual(taken.exception.place, place)
        self.assertEqual(Broken(place=3).place, 3)

    def test_two_broken_ones_keep_their_own_places(self):
        one = Broken(1)
        other = Broken(2)
        self.assertEqual((one.place, other.place), (1, 2))

    def test_broken_asks_for_its_place(self):
        with self.assertRaises(TypeError):
            Broken()


if __name__ == "__main__":
    unittest.main()

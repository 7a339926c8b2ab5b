import inspect
import itertools
import unittest

import slowly
from making import some_text
from plainly import RULES, Plain, done, reached, some_deeds
from seekpress.blocks import opened, pressed
from seekpress.book import grown
from seekpress.errors import NoMake, NoName, NoPlace, NoText, PressError, Twice
from seekpress.makes import Makes
from seekpress.rule import Rule
from seekpress.store import Store

FOUR = (4, 3, 12, 4)
# Any things that are no names, no places and no texts, as far as they go.
NO_NAMES = (0, 1, -1, 10 ** 39, True, False, None, "", "A", "aB", "a1", "a b", " a", "a ", "a\n", "abcdefghi", "\u00e9",
            "a_", "`", "{", [], ["a"], ("a",), ("a", "b"), [["a"]], (), [None])
NO_PLACES = (-1, 10 ** 39, True, False, None, "", "0", [], [0], (0,), ((),))
NO_TEXTS = (0, 7, True, None, "", "abc", (), (1, 2), [256], [-1], [1, True], [False], [None], ["1"], [[1]], [(1,)],
            [1, 2, 10 ** 39])


class Noting:
    """An opener that notes the bytes it is asked for."""

    def __init__(self):
        self.asked = []

    def __call__(self, data):
        self.asked.append(list(data))
        return opened(data)


def once(things):
    return list(dict.fromkeys(things))


def some_makes(four=FOUR):
    makes, noting = made(four)
    makes.new("a", some_text(60, 3, 1))
    makes.new("b", some_text(30, 256, 2))
    makes.new("c", [])
    makes.twin("a", "d")
    noting.asked.clear()
    return makes, noting


def made(four):
    noting = Noting()
    return Makes(Rule(*four), noting), noting


def state(makes):
    store = makes.store()
    return (
        [(name, makes.root(name), makes.blocks(name), makes.long(name)) for name in makes.names()],
        [(number, store.holds(number), store.kids(number)) for number in store.lying()],
        # The texts, without opening them.
        [[store.bytes_of(number) for number in makes.blocks(name)] for name in makes.names()],
    )


class ByHandTest(unittest.TestCase):
    def test_new_tells_and_keeps(self):
        makes = Makes(Rule(*FOUR))
        # Two like blocks of sign 0, which are a group, and a last one that is not closed.
        self.assertEqual(makes.new("a", [0, 0, 0, 0, 0, 0, 7]), ([], [0, 1]))
        self.assertEqual(makes.blocks("a"), [0, 0, 1])
        self.assertEqual((makes.long("a"), makes.root("a"), makes.names()), (7, 4, ["a"]))
        self.assertEqual([makes.store().kids(number) for number in (2, 3, 4)], [[0, 0], [1], [2, 3]])
        self.assertEqual(makes.store().lying(), [0, 1, 2, 3, 4])
        self.assertEqual(makes.text("a"), [0, 0, 0, 0, 0, 0, 7])

    def test_a_make_without_marks(self):
        makes = Makes(Rule(*FOUR))
        self.assertEqual(makes.new("a", []), ([], []))
        self.assertEqual((makes.text("a"), makes.long("a"), makes.root("a"), makes.blocks("a")), ([], 0, None, []))
        self.assertEqual(makes.store().lying(), [])
        self.assertEqual(makes.change("a", 0, 0, []), ([], []))
        self.assertEqual(makes.pour("b", "a", "a"), ([], []))
        self.assertEqual(makes.part("a", 0, "c", "d"), ([], []))
        self.assertEqual(makes.twin("a", "e"), ([], []))
        self.assertIsNone(makes.drop("a"))
        self.assertEqual([makes.root(name) for name in makes.names()], [None] * 4)

    def test_change_within_a_block(self):
        makes = Makes(Rule(*FOUR))
        makes.new("a", [0, 0, 0, 5, 1, 0, 0, 0, 0])
        self.assertEqual(slowly.cuts([0, 0, 0, 5, 1, 0, 0, 0, 0], FOUR), [0, 3, 8])
        self.assertEqual(makes.blocks("a"), [0, 1, 2])
        # The knots are 3, 4 and 5. The last cut ahead of 4 is 3, and at 8 both texts have a cut.
        self.assertEqual(makes.change("a", 4, 5, [2]), ([1], [6]))
        self.assertEqual(makes.text("a"), [0, 0, 0, 5, 2, 0, 0, 0, 0])
        self.assertEqual(makes.blocks("a"), [0, 6, 2])

    def test_at_the_end_behind_a_block_that_is_not_closed(self):
        makes = Makes(Rule(*FOUR))
        makes.new("a", [0, 0, 0, 7])
        self.assertEqual(makes.put("a", 4, []), ([1], []))
        self.assertEqual(makes.put("a", 4, [1])[0], [1])
        self.assertEqual(makes.text("a"), [0, 0, 0, 7, 1])

    def test_at_the_end_behind_a_closed_block(self):
        makes = Makes(Rule(*FOUR))
        makes.new("a", [0, 0, 0])
        self.assertEqual(makes.put("a", 3, [7]), ([], [2]))
        self.assertEqual(makes.blocks("a"), [0, 2])

    def test_part_at_the_end_opens_nothing(self):
        makes, noting = made(FOUR)
        makes.new("a", [0, 0, 0, 7])
        self.assertEqual(makes.part("a", 4, "b", "c"), ([], []))
        self.assertEqual((makes.root("b"), makes.root("c")), (makes.root("a"), None))
        self.assertEqual(noting.asked, [])

    def test_part_across_a_block(self):
        makes, noting = made(FOUR)
        makes.new("a", [0, 0, 0, 5, 1, 0, 0, 0, 0])
        self.assertEqual(makes.part("a", 4, "l", "r")[0], [1])
        self.assertEqual((makes.text("l"), makes.text("r")), ([0, 0, 0, 5], [1, 0, 0, 0, 0]))
        self.assertEqual(makes.text("a"), [0, 0, 0, 5, 1, 0, 0, 0, 0])

    def test_pour_with_itself_opens_the_last_block_once(self):
        makes, noting = made(FOUR)
        makes.new("a", [7])
        self.assertEqual(makes.pour("b", "a", "a")[0], [0])
        self.assertEqual(len(noting.asked), 1)
        self.assertEqual(makes.text("b"), [7, 7])

    def test_the_last_block_is_opened_also_where_nothing_is_poured_behind(self):
        makes = Makes(Rule(*FOUR))
        makes.new("a", [0, 0, 0, 7])
        makes.new("c", [])
        self.assertEqual(makes.pour("b", "a", "c"), ([1], []))
        self.assertEqual(makes.pour("d", "c", "a"), ([], []))
        self.assertEqual((makes.root("b"), makes.root("d")), (makes.root("a"), makes.root("a")))

    def test_a_deed_without_end_to_its_opening(self):
        # Blocks of 48 all along, which one mark more at the begin moves up to the end.
        makes, noting = made((64, 48, 48, 8))
        text = some_text(480, 256, 5)
        makes.new("a", text)
        numbers = makes.blocks("a")
        self.assertEqual(makes.put("a", 0, [1])[0], numbers)
        self.assertEqual(makes.text("a"), [1] + text)

    def test_the_opener_of_18_where_none_is_handed_in(self):
        makes = Makes(Rule(*FOUR), None)
        makes.new("a", some_text(50, 9, 1))
        self.assertEqual(makes.text("a"), some_text(50, 9, 1))

    def test_the_store_is_a_store_and_always_the_same(self):
        makes = Makes(Rule(*FOUR))
        self.assertIsInstance(makes.store(), Store)
        self.assertIs(makes.store(), makes.store())

    def test_a_block_that_comes_back_later_is_packed_anew(self):
        makes = Makes(Rule(*FOUR))
        self.assertEqual(makes.new("a", [1]), ([], [0]))
        makes.drop("a")
        self.assertEqual(makes.new("a", [1]), ([], [2]))
        self.assertEqual(makes.new("b", [1]), ([], []))

    def test_six_thousand_marks(self):
        for below in (2, 256):
            text = some_text(6000, below, 1)
            makes, noting = made(FOUR)
            makes.new("a", text)
            told = makes.change("a", 3000, 3010, [1, 2, 3])
            self.assertLess(len(told[0]), 20)
            self.assertEqual(makes.text("a"), text[:3000] + [1, 2, 3] + text[3010:])
            self.assertEqual(makes.stretch("a", 5990, 5993), (text[:3000] + [1, 2, 3] + text[3010:])[5990:])
            makes.put("a", 5, text)
            self.assertEqual(makes.long("a"), 11993)


class DeedsTest(unittest.TestCase):
    def each_deed(self, many=40):
        for four in RULES:
            for below, most in ((2, 60), (256, 40), (4, 12), (3, 300)):
                makes, noting = made(four)
                for deed, texts in some_deeds(f"{four}", below, most, many if most < 300 else many // 3):
                    with self.subTest(four=four, below=below, deed=deed):
                        yield makes, noting, four, deed, texts

    # Behind each deed, with the plain texts as they are then.
    def behind_each_deed(self):
        for makes, noting, four, deed, texts in self.each_deed():
            plain = Plain()
            plain.texts = texts
            done(deed, makes)
            done(deed, plain)
            yield makes, four, plain

    def test_each_text_is_the_plain_one(self):
        for makes, four, plain in self.behind_each_deed():
            self.assertEqual(makes.names(), sorted(plain.texts))
            for name, text in plain.texts.items():
                self.assertEqual(makes.text(name), text)
                self.assertEqual(makes.long(name), len(text))
                found = [pressed(block) for block in slowly.blocks(text, four)]
                self.assertEqual([makes.store().bytes_of(number) for number in makes.blocks(name)], found)

    def test_each_book_is_the_one_made_anew_and_nothing_else_is_held(self):
        for makes, four, plain in self.behind_each_deed():
            store = makes.store()
            before = state(makes)
            roots = [makes.root(name) for name in makes.names()]
            self.assertEqual(store.lying(), reached(store, [root for root in roots if root is not None]))
            named = [kid for number in store.lying() for kid in store.kids(number)]
            for number in store.lying():
                self.assertEqual(store.holds(number), named.count(number) + roots.count(number))
            for name, text in plain.texts.items():
                numbers = [store.keep_block(block) for block in slowly.blocks(text, four)]
                root = grown(store, numbers, Rule(*four))
                self.assertEqual(root, makes.root(name))
                if root is not None:
                    store.let(root)
            self.assertEqual(state(makes), before)
            for one, other in itertools.combinations(sorted(plain.texts), 2):
                alike = plain.texts[one] == plain.texts[other]
                self.assertEqual(makes.root(one) == makes.root(other), alike)

    def test_what_is_opened_and_packed(self):
        for makes, noting, four, deed, texts in self.each_deed():
            store = makes.store()
            lying = store.lying()
            wanted = opened_by_words(deed, makes, texts, four)
            wanted_bytes = [store.bytes_of(number) for number in wanted]
            noting.asked.clear()
            told = done(deed, makes)
            self.assertEqual(noting.asked, wanted_bytes)
            if deed[0] == "drop":
                self.assertIsNone(told)
                continue
            self.assertEqual(told, (wanted, packed_by_words(deed, makes, lying)))

    def test_what_was_made_by_a_deed_leaves_the_others_as_they_are(self):
        for makes, noting, four, deed, texts in self.each_deed(20):
            before = {name: (makes.root(name), makes.blocks(name)) for name in makes.names()}
            done(deed, makes)
            changed = deed[1] if deed[0] in ("new", "change", "put", "take", "drop") else None
            for name, one in before.items():
                if name != changed:
                    self.assertEqual((makes.root(name), makes.blocks(name)), one)

    def test_all_dropped_nothing_lies_there(self):
        for four in RULES:
            makes, noting = made(four)
            for deed, texts in some_deeds(f"{four} dropped", 3, 50, 30):
                done(deed, makes)
            noting.asked.clear()
            for name in makes.names():
                self.assertIsNone(makes.drop(name))
            self.assertEqual((makes.store().lying(), makes.names(), noting.asked), ([], [], []))

    def test_lists_handed_in_and_told_are_the_askers_own(self):
        for makes, noting, four, deed, texts in self.each_deed(20):
            plain = Plain()
            plain.texts = texts
            handed = [list(thing) if isinstance(thing, list) else thing for thing in deed[1:]]
            told = getattr(makes, deed[0])(*handed)
            self.assertEqual(handed, list(deed[1:]))
            for thing in handed + list(told or ()):
                if isinstance(thing, list):
                    thing.append(99)
            done(deed, plain)
            for name, text in plain.texts.items():
                makes.blocks(name).append(5)
                makes.text(name).append(5)
                makes.names().append(5)
                self.assertEqual((makes.text(name), makes.names()), (text, sorted(plain.texts)))
                self.assertEqual(len(makes.blocks(name)), len(slowly.blocks(text, four)))


def opened_by_words(deed, makes, texts, four):
    kind, given = deed[0], deed[1:]
    if kind in ("new", "twin", "drop"):
        return []
    if kind == "pour":
        first, second = slowly.opened_by_pour(texts[given[1]], texts[given[2]], four)
        numbers = [makes.blocks(given[1])[at] for at in first] + [makes.blocks(given[2])[at] for at in second]
        return once(numbers)
    text = texts[given[0]]
    if kind == "part":
        places = slowly.opened_by_part(text, given[1], four)
    elif kind == "put":
        places = slowly.opened_by_change(text, given[1], given[1], given[2], four)
    else:
        places = slowly.opened_by_change(text, given[1], given[2], given[3] if kind == "change" else [], four)
    return once([makes.blocks(given[0])[at] for at in places])


def packed_by_words(deed, makes, lying):
    made_anew = {"pour": [1], "twin": [2], "part": [3, 4]}.get(deed[0], [1])
    numbers = [number for at in made_anew for number in makes.blocks(deed[at])]
    return once([number for number in numbers if number not in lying])


class AskingTest(unittest.TestCase):
    def test_each_stretch_opens_the_blocks_that_meet_it_once_and_in_order(self):
        for four in RULES:
            for below in (1, 2, 256):
                makes, noting = made(four)
                text = some_text(45, below, 3)
                makes.new("a", text)
                for a in range(46):
                    for b in range(a, 46):
                        noting.asked.clear()
                        self.assertEqual(makes.stretch("a", a, b), text[a:b])
                        met = [slowly.blocks(text, four)[at] for at in slowly.met(text, a, b, four)]
                        wanted = once([tuple(block) for block in met])
                        self.assertEqual(noting.asked, [pressed(list(block)) for block in wanted])

    def test_the_text_opens_each_block_once(self):
        makes, noting = made(FOUR)
        makes.new("a", [0] * 30 + [1, 2, 3] + [0] * 30)
        noting.asked.clear()
        self.assertEqual(makes.text("a"), [0] * 30 + [1, 2, 3] + [0] * 30)
        numbers = once(makes.blocks("a"))
        self.assertLess(len(numbers), len(makes.blocks("a")))
        self.assertEqual(noting.asked, [makes.store().bytes_of(number) for number in numbers])

    def test_each_asking_opens_anew(self):
        makes, noting = made(FOUR)
        makes.new("a", [0, 0, 0])
        makes.text("a")
        makes.text("a")
        self.assertEqual(len(noting.asked), 2)

    def test_what_the_opener_told_may_be_changed(self):
        told = []

        def keeping(data):
            told.append(opened(data))
            return told[-1]

        makes = Makes(Rule(*FOUR), keeping)
        makes.new("a", [0, 0, 0, 5])
        self.assertEqual(makes.text("a"), [0, 0, 0, 5])
        told[0].clear()
        self.assertEqual(makes.text("a"), [0, 0, 0, 5])

    def test_other_askings_open_nothing(self):
        makes, noting = some_makes()
        for name in makes.names():
            makes.long(name), makes.root(name), makes.blocks(name), makes.stretch(name, 0, 0)
        self.assertEqual(noting.asked, [])


# For each deed or asking the roles of what is handed in: m a make's name, n a new name, p a place, t a text.
ROLES = {
    "new": "nt", "change": "mppt", "put": "mpt", "take": "mpp", "pour": "nmm", "part": "mpnn", "twin": "mn",
    "drop": "m", "text": "m", "stretch": "mpp", "long": "m", "root": "m", "blocks": "m",
}
# Good ones and wrong ones for a role, each with the refusal that it is due.
GIVEN = {
    "m": (("a", None), ("x", NoMake), ("", NoMake), (["a"], NoMake)),
    "n": (("x", None), ("yy", None), ("a", Twice), ("B", NoName), (("x",), NoName)),
    "p": ((0, None), (60, None), (61, NoPlace), (True, NoPlace), ("0", NoPlace)),
    "t": (([1], None), ([], None), ([256], NoText), ((1,), NoText)),
}
ORDER = (NoMake, NoName, Twice, NoPlace, NoText)


def due(roles, pairs):
    found = [refusal for thing, refusal in pairs if refusal]
    new = [thing for role, (thing, refusal) in zip(roles, pairs) if role == "n" and refusal is None]
    places = [thing for role, (thing, refusal) in zip(roles, pairs) if role == "p" and refusal is None]
    if len(set(new)) < len(new):
        found.append(Twice)
    if places != sorted(places):
        found.append(NoPlace)
    return min(found, key=ORDER.index) if found else None


class RefusalTest(unittest.TestCase):
    def refused(self, makes, noting, refusal, asked, given):
        before = state(makes)
        with self.assertRaises(PressError) as caught:
            getattr(makes, asked)(*given)
        self.assertIs(type(caught.exception), refusal)
        self.assertEqual((state(makes), noting.asked), (before, []))

    def test_all_at_once_in_their_order(self):
        makes, noting = some_makes()
        for asked, roles in ROLES.items():
            for pairs in itertools.product(*[GIVEN[role] for role in roles]):
                refusal = due(roles, pairs)
                if refusal:
                    with self.subTest(asked=asked, pairs=pairs):
                        self.refused(makes, noting, refusal, asked, [thing for thing, one in pairs])

    def test_any_thing_that_is_no_makes_name(self):
        makes, noting = some_makes()
        good = {"n": "x", "p": 0, "t": [1], "m": "a"}
        for asked, roles in ROLES.items():
            for at in [at for at, role in enumerate(roles) if role == "m"]:
                for thing in NO_NAMES + ("x", "abcdefgh"):
                    given = [thing if place == at else good[role] for place, role in enumerate(roles)]
                    with self.subTest(asked=asked, thing=thing):
                        self.refused(makes, noting, NoMake, asked, given)

    def test_any_thing_that_is_no_new_name(self):
        makes, noting = some_makes()
        for thing in NO_NAMES:
            for asked, given in (("new", (thing, [1])), ("pour", (thing, "a", "b")), ("part", ("a", 3, thing, "x")),
                                 ("part", ("a", 3, "x", thing)), ("part", ("a", 3, thing, thing)),
                                 ("twin", ("a", thing)), ("part", ("a", 3, thing, "a")), ("part", ("a", 3, "a", thing)),
                                 ("new", (thing, None)), ("part", ("a", None, "x", thing))):
                with self.subTest(asked=asked, thing=thing):
                    self.refused(makes, noting, NoName, asked, given)

    def test_names_that_are_there_or_alike(self):
        makes, noting = some_makes()
        for asked, given in (("new", ("a", [1])), ("new", ("c", "no text")), ("pour", ("a", "a", "b")),
                             ("part", ("a", 3, "x", "x")), ("part", ("a", 3, "b", "x")), ("part", ("a", 3, "x", "a")),
                             ("part", ("a", None, "x", "x")), ("twin", ("a", "a")), ("twin", ("a", "c"))):
            with self.subTest(asked=asked, given=given):
                self.refused(makes, noting, Twice, asked, given)

    def test_any_thing_that_is_no_place(self):
        makes, noting = some_makes()
        for thing in NO_PLACES + (61,):
            for asked, given in (("change", ("a", thing, 60, [1])), ("change", ("a", 0, thing, [1])),
                                 ("change", ("a", thing, thing, None)), ("put", ("a", thing, [1])),
                                 ("take", ("a", thing, 60)), ("take", ("a", 0, thing)), ("part", ("a", thing, "x", "y")),
                                 ("stretch", ("a", thing, 60)), ("stretch", ("a", 0, thing))):
                with self.subTest(asked=asked, thing=thing):
                    self.refused(makes, noting, NoPlace, asked, given)

    def test_stretches_that_are_none(self):
        makes, noting = some_makes()
        for a, b in ((1, 0), (60, 59), (61, 61), (60, 61), (-1, 0), (0, 61), (-2, -1)):
            for asked, given in (("change", ("a", a, b, [])), ("take", ("a", a, b)), ("stretch", ("a", a, b))):
                with self.subTest(asked=asked, given=given):
                    self.refused(makes, noting, NoPlace, asked, given)
        self.refused(makes, noting, NoPlace, "put", ("c", 1, []))
        self.refused(makes, noting, NoPlace, "part", ("c", 1, "x", "y"))

    def test_any_thing_that_is_no_text(self):
        makes, noting = some_makes()
        for thing in NO_TEXTS:
            for asked, given in (("new", ("x", thing)), ("change", ("a", 3, 4, thing)), ("put", ("a", 3, thing))):
                with self.subTest(asked=asked, thing=thing):
                    self.refused(makes, noting, NoText, asked, given)

    def test_an_opener_that_fails_leaves_all_as_it_was(self):
        def failing(data):
            raise RuntimeError("no")

        makes = Makes(Rule(*FOUR), failing)
        makes.new("a", some_text(40, 256, 1))
        makes.new("b", [7])
        before = state(makes)
        for asked, given in (("put", ("a", 1, [1])), ("pour", ("x", "b", "a")), ("part", ("a", 1, "x", "y"))):
            with self.assertRaises(RuntimeError):
                getattr(makes, asked)(*given)
            self.assertEqual(state(makes), before)

    def test_names_of_one_and_of_eight_letters(self):
        makes = Makes(Rule(*FOUR))
        for name in ("a", "z", "abcdefgh", "zzzzzzzz"):
            makes.new(name, [1])
        self.assertEqual(makes.names(), ["a", "abcdefgh", "z", "zzzzzzzz"])


class InterfaceTest(unittest.TestCase):
    def test_the_arguments_have_their_names(self):
        wanted = {
            "new": ["name", "text"], "change": ["name", "a", "b", "marks"], "put": ["name", "at", "marks"],
            "take": ["name", "a", "b"], "pour": ["name", "one", "other"], "part": ["name", "at", "left", "right"],
            "twin": ["name", "other"], "drop": ["name"], "text": ["name"], "stretch": ["name", "a", "b"], "names": [],
            "long": ["name"], "root": ["name"], "blocks": ["name"], "store": [],
        }
        for method, names in wanted.items():
            self.assertEqual(list(inspect.signature(getattr(Makes, method)).parameters), ["self"] + names)
        makes = Makes(rule=Rule(*FOUR), opener=lambda data: [9])
        makes.new("a", [1])
        self.assertEqual(makes.text("a"), [9])


if __name__ == "__main__":
    unittest.main()

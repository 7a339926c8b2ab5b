import re
import unittest
from pathlib import Path

import language

PACKAGE = Path(__file__).resolve().parent.parent / "seekpress"
SOURCES = {path.name: path.read_text(encoding="utf-8") for path in sorted(PACKAGE.glob("*.py"))}

# What the reader must see: the rule, and a source that leaves it.
BAD = (
    ("L2", "import re\n"), ("L2", "from re import sub\n"), ("L2", "from .errors import NoBits\n"),
    ("L2", "from seekpress.errors import *\n"), ("L3", "for at in range(3):\n    pass\n"),
    ("L4", "def f(*things):\n    return 1\n"), ("L4", "def f(**things):\n    return 1\n"),
    ("L5", "class A:\n    x = 1\n"), ("L5", "class A(B, C):\n    pass\n"),
    ("L6", "def f():\n    assert 1\n"), ("L6", "def f(x):\n    x = y = 1\n"), ("L6", "def f(x):\n    del x[0]\n"),
    ("L6", "def f(x):\n    for y in x:\n        pass\n    else:\n        pass\n"),
    ("L7", "def f(x):\n    return x / 2\n"), ("L7", "def f():\n    return 1.5\n"), ("L7", "def f():\n    return b'a'\n"),
    ("L7", "def f(x):\n    return sum(y for y in x)\n"), ("L7", "def f(x):\n    return [*x]\n"),
    ("L8", "def f(x):\n    return map(x)\n"), ("L8", "def f(x):\n    return chr(x)\n"),
    ("L10", "X = '" + "a" * 120 + "'\n"), ("L10", "def f():\n" + "    pass\n" * 40), ("L10", "\n" * 401),
    ("L12", "def f(_x):\n    return 1\n"), ("L14", "X = '\u00e9'\n"), ("L14", "X = '\t'\n"),
    ("L15", "def f(min):\n    return 1\n"), ("L15", "def f():\n    sum = 1\n"), ("L15", "X = 1\nX = 2\n"),
    ("L17", "# its type\n"), ("L17", "def f(x):\n    return x.mro\n"),
    ("L19", "def f(x):\n    try:\n        x()\n    except TypeError:\n        pass\n"),
    ("L20", "def f(x, y):\n    return x is y\n"), ("L21", "def f(x: int):\n    return 1\n"),
    ("L15", "from seekpress.bits import laid\ndef f(laid):\n    return 1\n"),
    ("L15", "class A:\n    pass\ndef f(x):\n    for A in x:\n        pass\n"),
    ("L18", "def f(x):\n    x[0].long = 1\n"),
    ("L23", "def f(x):\n    y = range(x)\n"), ("L23", "def f(x):\n    return [y for y in reversed(range(x))]\n"),
    ("L23", "def f(x):\n    return zip([1], reversed(x))\n"), ("L23", "def f(x):\n    return x.items()\n"),
    ("L24", "def f(x):\n    y = set(x)\n"), ("L24", "def f(x):\n    return [y for y in set(x)]\n"),
    ("L27", "def f(x):\n    return 2 ** x\n"), ("L27", "X = 'a % b'\n"),
)

GOOD = (
    "def f(x):\n    return [a + b for a, b in zip(reversed(x), [1])]\n",
    "def f(x):\n    return len(set(x)) == 1 and 3 in set(x) and set(x) == set([1]) and sorted(set(x) - set([2]))\n",
    "def f(x):\n    return list(x.items()) + sorted(range(len(x)), key=lambda at: x[at])\n",
    "class A:\n    def __init__(self, x):\n        self.x = x\n        x.y = max(range(3))\n",
)


class ReaderTest(unittest.TestCase):
    def test_it_sees_what_leaves_a_rule(self):
        for rule, source in BAD:
            with self.subTest(rule=rule, source=source[:60]):
                self.assertIn(rule, [fault[0] for fault in language.faults_of("bad.py", source)])

    def test_it_tells_no_faults_where_there_are_none(self):
        for source in GOOD:
            with self.subTest(source=source):
                self.assertEqual(language.faults_of("good.py", source), [])

    def test_it_sees_a_method_that_is_not_listed(self):
        self.assertEqual(language.unknown_methods(["def f(x):\n    x.sort()\n    x.append(1)\n"]), ["sort"])


class PackageTest(unittest.TestCase):
    def test_each_file_keeps_to_the_rules(self):
        for name, source in SOURCES.items():
            with self.subTest(name):
                self.assertEqual(language.faults_of(name, source), [])

    def test_only_sources_lie_in_the_package(self):
        for path in PACKAGE.rglob("*"):
            if "__pycache__" not in path.parts:
                self.assertTrue(path.is_file(), path)
                self.assertRegex(path.name, re.compile(r"\A(__init__|__main__|[a-z][a-z0-9_]*)\.py\Z"))
        self.assertIn("__init__.py", SOURCES)

    def test_no_name_is_a_method_here_and_a_value_there(self):
        methods, values = language.methods_and_values(SOURCES.values())
        self.assertEqual(sorted(methods & values), [])

    def test_only_listed_and_own_methods_are_called(self):
        self.assertEqual(language.unknown_methods(SOURCES.values()), [])

    def test_names_are_drawn_from_the_file_that_defines_them(self):
        for name, source in SOURCES.items():
            for module, drawn in language.draws(source):
                with self.subTest(name=name, drawn=drawn):
                    self.assertIn(drawn, language.defined(SOURCES[module.split(".", 1)[1] + ".py"]))

    def test_no_two_files_draw_from_one_another(self):
        ahead = {name: {module.split(".", 1)[1] + ".py" for module, drawn in language.draws(source)}
                 for name, source in SOURCES.items()}
        while ahead:
            free = [name for name in ahead if not ahead[name] & set(ahead)]
            self.assertTrue(free, "these draw from one another: " + ", ".join(sorted(ahead)))
            ahead = {name: drawn for name, drawn in ahead.items() if name not in free}


if __name__ == "__main__":
    unittest.main()

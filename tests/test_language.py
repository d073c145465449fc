"""The package keeps to the rules of ../shared/LANGUAGE.md, and what looks after it sees a breach of each."""

import os
import unittest

from language import findings, package_files

ROOT = os.path.dirname(os.path.dirname(os.path.abspath(__file__)))

IN_A_FUNCTION = {
    4: ["def g(*xs):\n        return xs", "return lambda *, x: x"],
    6: [
        "while x:\n        pass\n    else:\n        pass",
        "y = z = x",
        "assert x",
        "x",
        "try:\n        pass\n    except:\n        pass",
        "try:\n        pass\n    except KeyError:\n        pass\n    finally:\n        pass",
        "for y in x:\n        pass\n    else:\n        pass",
    ],
    7: [
        "return 1.5", "return x / 2", "return b''", "return any(y for y in x)", "return {y: 1 for y in x}",
        "return [y for z in x for y in z]", "return [y for y in x if y if y]", "return [*x]", "return (y := x)",
        "return f'{x + 1}'", "return f'{x:3}'", "x /= 2", "return dict(**x)", "return {**x}",
    ],
    8: ["return unknown", "return map(len, x)", "len = x", "return x.format(1)", "return x.__doc__", "return chr(x)"],
    9: ["print(x)", "return open(x)"],
    10: ["return x" + " " * 120, "\treturn x", "\n    ".join(["x = x + 1"] * 40)],
    11: [
        "for y in set(x):\n        pass", "return [y for y in set(x)]",
        "try:\n        y = x[0]\n    except KeyError as e:\n        return str(e)",
    ],
    12: ["_ = x", "y_\u00e9 = x", "return x._y()"],
    13: ["y = {1, 2, 3}\n    return x in y", "return [lambda y: 1, lambda y: 2]"],
    14: ["return '\u00e9'", "return x\r"],
    15: [
        "TABLE.append(x)", "TABLE[x] = 1", "return TABLE", "y = TABLE", "id = x", "HallError = x", "NoWorld = x",
        "return g(TABLE)", "class C:\n        pass", "hash = x", "return ROWS",
    ],
    17: ["return x.register()", "return x.f_back", "vars = x", "return 'type'", "return 'mydataclasses'  #"],
    18: [
        "return HallError", "return [NoWorld]", "HallError.words = x", "TABLE.words = x", "return (ValueError, x)",
        "x[0].words = 1",
    ],
    19: [
        "try:\n        y = g(x)\n    except Exception:\n        pass",
        "try:\n        y = g(x)\n    except ValueError:\n        pass",
        "try:\n        y = g(x)\n    except TypeError:\n        pass",
        "raise NoWorld", "raise", "raise x", "raise ValueError('x')", "raise NoWorld('x') from x",
    ],
    20: ["return x is 1", "return x is x"],
    21: ["y: int = x"],
    22: [
        "return isinstance(x, set)", "y = len", "return sorted(x, key=ord)", "return sorted(x, reverse=x)",
        "return int(x, base=2)", "return x.split(sep='a')", "return NoWorld(words=x)", "return list(x, strict=True)",
    ],
    23: [
        "y = range(x)", "return zip(x, x)", "return x.items()", "return sorted(x, key=len)[range(1)]",
        "for y in x:\n        x.append(y)", "for k, y in enumerate(x):\n        x[k] = 1",
        "for k in x.items():\n        x.pop(k)", "for y in x:\n        x += [y]", "return min(range(x), 1)",
    ],
    24: ["y = set(x)", "return set(x)", "return {1}", "return set(x) < set(x)", "return sorted(set(x), key=len)"],
    25: ["x.sort()", "return x.casefold()", "y = x.append", "return x.words"],
    27: ["return 2 ** x", "return '%'", "return '\\x41'", "return '\\u0041'", "return x ** 65", "x **= x"],
}

AT_THE_TOP = {
    2: [
        "import os", "from os import path", "from .worlds import one", "from foreseehall.errors import *",
        "def h():\n    from foreseehall.errors import NoPlan", "X = 1\nfrom foreseehall.errors import NoPlan",
    ],
    3: ["X = len('a')", "for y in (1, 2):\n    pass", "if True:\n    pass", "X = later\ndef later():\n    pass"],
    4: ["def h(*x):\n    pass", "def h(x=len):\n    pass", "@g\ndef h():\n    pass", "def h(*, x):\n    pass"],
    5: [
        "class C:\n    x = 1", "class C(HallError, NoWorld):\n    pass", "class C(dict):\n    pass",
        "@g\nclass C:\n    pass",
    ],
    8: ["def __h():\n    pass", "class C:\n    def __add__(self, other):\n        return 1", "def sorted(x):\n    pass"],
    12: ["def _h():\n    pass", "class C:\n    def __add__(self, other):\n        return 1"],
    15: ["X = 1\nX = 2", "X = [[1]]", "X = {1: [2]}", "def g():\n    pass", "def h(NoWorld):\n    pass"],
    16: [
        "import sys", "from foreseehall import errors", "from foreseehall.errors import Nothing",
        "from foreseehall.second import FROM_THIRD", "from foreseehall.drawing import draw",
    ],
    17: ["def open(x):\n    pass", "# of this type", "X = 'Protocol'", "def h(super):\n    pass"],
    18: [
        "class C:\n    def h(self):\n        pass\n    def h(self):\n        pass",
        "class C(StopIteration):\n    pass",
        "class C:\n    def __init__(self):\n        self.h = 1\nclass D:\n    def h(self):\n        pass",
    ],
    21: ["def h(x: int):\n    pass", "def h() -> int:\n    pass"],
    26: [
        "class C:\n    def casefold(self):\n        pass", "class C:\n    def __init__(self):\n        self.pop = 1",
        "class C:\n    def __init__(self):\n        self.args = 1",
    ],
    27: ["X = '100%'", "X = " + "9" * 1000],
    28: [
        "class C:\n    def __init__(self):\n        return None",
        "class C:\n    def __len__(self):\n        return 1",
    ],
}

ALLOWED = [
    "return sorted(set(x) | set(x))", "return x in {1, 2, 3}", "return set(x) == set(x)", "return len(set(x))",
    "return [y for y in x if y in TABLE]", "for k, y in enumerate(x):\n        y.append(k)", "return list(range(x))",
    "try:\n        y = x[0]\n    except KeyError as e:\n        raise NoWorld('x') from e", "return TABLE[x]",
    "return sorted(x, key=lambda y: -y, reverse=True)", "return 2 ** 64", "return x is None", "return f'{x!r}'",
    "while x:\n        x.pop()", "return ', '.join(x)", "return list(TABLE)", "return 'a\\n\\t\\\\'", "x //= 2",
    "return isinstance(x, (int, str))", "return x if x else -x", "return x[1:2]", "return lambda y: x",
]


def files_with(text):
    return {
        "foreseehall/__init__.py": '"""A package."""\n',
        "foreseehall/errors.py": "class HallError(ValueError):\n    pass\n\n\nclass NoWorld(HallError):\n    pass\n",
        "foreseehall/second.py": "from foreseehall.third import FROM_THIRD\n\nX = FROM_THIRD\n",
        "foreseehall/third.py": "FROM_THIRD = 1\n",
        "foreseehall/drawing.py": "from foreseehall.first import g\n\n\ndef draw():\n    return g(1)\n",
        "foreseehall/first.py": text,
    }


HEAD = (
    '"""A file."""\n\nfrom foreseehall.errors import HallError, NoWorld\n\nTABLE = [1, 2]\nROWS = ([1], 2)\n\n\n'
    "def g(x):\n    return x\n"
)


def rules_broken_by(text):
    return sorted({rule for rule, path, _ in findings(files_with(text)) if path == "foreseehall/first.py"})


def in_a_function(text):
    return HEAD + "\n\ndef f(x):\n    " + text + "\n"


class TheLanguage(unittest.TestCase):
    def test_the_package_keeps_to_it(self):
        files = package_files(ROOT)
        self.assertIn("foreseehall/__init__.py", files)
        self.assertIn("foreseehall/worlds.py", files)
        self.assertEqual(findings(files), [])

    def test_what_is_allowed_is_let_by(self):
        for text in ALLOWED:
            with self.subTest(text):
                self.assertEqual(rules_broken_by(in_a_function(text)), [])

    def test_a_breach_in_a_function_is_seen(self):
        for rule, texts in IN_A_FUNCTION.items():
            for text in texts:
                with self.subTest(rule=rule, text=text):
                    self.assertIn(rule, rules_broken_by(in_a_function(text)))

    def test_a_breach_at_the_top_is_seen(self):
        for rule, texts in AT_THE_TOP.items():
            for text in texts:
                with self.subTest(rule=rule, text=text):
                    is_import = text.startswith(("import", "from"))
                    whole = HEAD.replace("\n\nTABLE", "\n" + text + "\n\nTABLE") if is_import else HEAD + text + "\n"
                    self.assertIn(rule, rules_broken_by(whole))

    def test_an_odd_file_is_seen(self):
        odd = {
            "foreseehall/notes.txt": 1,
            "foreseehall/a-b.py": 1,
            "foreseehall/Upper.py": 14,
            "foreseehall/tests.py": 14,
            "foreseehall/test_some.py": 14,
            "foreseehall/len.py": 14,
            "foreseehall/enum.py": 14,
            "foreseehall/__main__.py": 14,
            "foreseehall/inner/some.py": 14,
            "elsewhere/__init__.py": 14,
        }
        for path, rule in odd.items():
            with self.subTest(path):
                files = files_with(HEAD)
                files[path] = ""
                self.assertIn((rule, path, 1), findings(files))

    def test_a_file_named_in_the_packages_own_init_is_seen(self):
        files = files_with(HEAD)
        files["foreseehall/__init__.py"] = "first = 1\n"
        self.assertIn((16, "foreseehall/__init__.py", 1), findings(files))

    def test_a_long_file_is_seen(self):
        self.assertNotIn(10, rules_broken_by(HEAD + "\n" * (400 - HEAD.count("\n"))))
        self.assertIn(10, rules_broken_by(HEAD + "\n" * (401 - HEAD.count("\n"))))

    def test_a_long_function_is_seen(self):
        rows = ["    x = x + 1"] * 39
        self.assertNotIn(10, rules_broken_by("def f(x):\n" + "\n".join(rows) + "\n"))
        self.assertIn(10, rules_broken_by("def f(x):\n" + "\n".join(rows + rows[:1]) + "\n"))


if __name__ == "__main__":
    unittest.main()

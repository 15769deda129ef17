"""The check of the form: the package passes it, and planted breaches do not."""

import importlib.util
import tempfile
import unittest
from pathlib import Path

TOP = Path(__file__).resolve().parent.parent


def load_form():
    spec = importlib.util.spec_from_file_location("form", TOP / ".ci" / "form.py")
    module = importlib.util.module_from_spec(spec)
    spec.loader.exec_module(module)
    return module


FORM = load_form()

BREACHES = {
    "L10": [
        "def f(x):\n" + "    x = x + 1\n" * 39 + "    return x\n",
        "".join(f"NAME{k} = {k}\n" for k in range(400)),
        "NAME = '" + "x" * 120 + "'\n",
    ],
    "L14": ["def f():\n\treturn 1\n", "NAME = '\u20ac'\n"],
    "L17": [
        "def open():\n    return 1\n", "def f(x):\n    return x.law\n", "def f(eval):\n    return eval\n",
        "class A:\n    def input(self):\n        return 1\n", "def f(x):\n    return x.f_back\n",
        "NAME = 'a dataclass'\n", "def f(type):\n    return type\n", "# Meta\n", "def f(x):\n    return x(law=1)\n",
    ],
    "L2": ["import sys\n", "from os import path\n", "from .b import two\n", "NAME = 1\nfrom pack.b import two\n"],
    "L3": ["print(1)\n", "NAME = len('a')\n", "A, B = 1, 2\n", "if True:\n    NAME = 1\n"],
    "L15": [
        "NAME = [[1], 2]\n", "NAME = 1\nNAME = 2\n", "from pack.b import two\ndef f(two):\n    return two\n",
        "class A:\n    pass\ndef f():\n    A = 1\n    return A\n", "def f(hash):\n    return hash\n",
    ],
    "L16": ["from pack.b import three\n", "from pack.b import two as three\n", "from pack.c import four\n"],
    "L4": ["from pack.b import two\n@two\ndef f():\n    return 1\n"],
    "L5": ["class A:\n    def __hash__(self):\n        return 1\n", "def f():\n    class A:\n        pass\n    return A\n"],
    "L6": ["async def f():\n    return 1\n", "def f(xs):\n    return sum(x for x in xs)\n"],
    "L7": ["NAME = 1.5\n", "def f(x):\n    return x / 2\n"],
    "L8": ["def f(x):\n    return hash(x)\n", "def f(x):\n    return open(x)\n", "def f(x):\n    print(x)\n"],
    "L12": ["def f(x):\n    _, y = x\n    return _\n", "__name = 1\n"],
    "L18": ["class A:\n    def __init__(self):\n        self.many = 1\n    def many(self):\n        return 1\n"],
    "L19": [
        "def f(x):\n    try:\n        return x()\n    except ValueError:\n        return 1\n",
        "def f(x):\n    raise x\n",
    ],
    "L20": ["def f(x, y):\n    return x is y\n"],
    "L23": [
        "def f(x):\n    y = zip(x, x)\n    return y\n", "def f(x):\n    return x.items()\n",
        "def f(x):\n    for y in x:\n        x.append(y)\n", "def f(x):\n    for k, y in enumerate(x):\n        x[k] = y\n",
        "def f(x):\n    for y in x.rows:\n        x.rows.pop()\n", "def f(x):\n    for y in x[0]:\n        x[1].append(y)\n",
        "def f(x):\n    while x:\n        z = []\n        for y in x:\n            z.append(y)\n        x = z\n",
        "def f(x):\n    z, y = x, x\n    w = z\n    for y in w or []:\n        del x[0]\n",
    ],
    "L24": ["def f(x):\n    return set(x)\n", "def f(x):\n    for y in {1, 2}:\n        x = y\n    return x\n"],
    "L25": ["def f(x):\n    return x.format(1)\n", "def f(x):\n    x.sort()\n    return x\n"],
    "L27": ["NAME = 'a\\tb\\r'\n", "NAME = '100%'\n"],
}
GOOD = (
    '"""A file."""\n\nfrom pack.b import Two, two\n\nNAMES = ("a", "b")\n\n\nclass A(Two):\n    """A class."""\n\n'
    "    MANY = 3\n\n    def __len__(self):\n        return len(NAMES)\n\n    @property\n    def least(self):\n"
    "        return min(sorted({two(name) for name in NAMES}))\n"
)


class FormTest(unittest.TestCase):
    def breaches(self, text, name="a.py"):
        with tempfile.TemporaryDirectory() as folder:
            package = Path(folder) / "pack"
            package.mkdir()
            (package / "__init__.py").write_text("")
            (package / "b.py").write_text("class Two:\n    MOST = 2\n\n\ndef two(x):\n    return x\n")
            (package / "c.py").write_text("from pack.a import NAMES\n\n\ndef four():\n    return NAMES\n")
            (package / name).write_text(text, encoding="utf-8")
            if name != "a.py":
                (package / "a.py").write_text(GOOD)
            return FORM.Form(package).run()

    def test_the_package(self):
        self.assertEqual(FORM.Form(TOP / "stylepages").run(), [])

    def test_a_good_file(self):
        self.assertEqual(self.breaches(GOOD), [])

    def test_good_loops(self):
        for text in (
            "def f(x):\n    for y in list(x):\n        x.append(y)\n",
            "def f(x):\n    z = []\n    for y in x:\n        z.append(y)\n    return z\n",
            "def f(x):\n    z = x[1:]\n    for y in x:\n        z.append(y)\n    return z\n",
        ):
            self.assertEqual(self.breaches(text + "\n\nNAMES = 1\n"), [], text)

    def test_planted_breaches(self):
        for rule, texts in BREACHES.items():
            for text in texts:
                if "NAMES" not in text and "pack.c" not in text:
                    text = text + "\n\nNAMES = 1\n"
                found = [row for row in self.breaches(text) if f": {rule}: " in row]
                self.assertTrue(found, (rule, text))

    def test_files(self):
        for name, rule in (("A.py", "L1"), ("notes.txt", "L1"), ("test_a.py", "L14"), ("format.py", "L14")):
            self.assertTrue([row for row in self.breaches("NAME = 1\n", name) if f": {rule}: " in row], name)


if __name__ == "__main__":
    unittest.main()

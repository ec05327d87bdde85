import pathlib
import unittest

from tests.form import faults, faults_of_drawing

PACKAGE = pathlib.Path(__file__).resolve().parent.parent / "acre"

RULED_OUT = [
    "import time\n", "from random import choice\n", "from math import gcd\n", "from .errors import NoNumber\n",
    "def f(p):\n    return open(p)\n", "def f(p):\n    return p / 2\n", "def f(p):\n    return 0.5\n",
    "def f(p):\n    print(p)\n", "def f(*p):\n    return p\n", "def f(p):\n    return p is 3\n",
    "def f(p):\n    p.sort()\n", "def f(p):\n    for q in p:\n        pass\n    else:\n        pass\n",
    "def f(p):\n    a = b = p\n    return a + b\n", "def f(p):\n    return [*p]\n", "def _f(p):\n    return p\n",
    "def f(id):\n    return id\n", "def f(p):\n    sum = p\n    return sum\n", "# a type\n", "# \u00fc\n", "#\t\n",
    "def f(p):\n" + "    p = p + 1\n" * 40, "#\n" * 401, "#" * 121 + "\n", "if True:\n    pass\n",
    "def f(p):\n    return {p}\n", "def f(p):\n    return set(p)\n", "def f(p):\n    return 2 ** p\n",
    "def f(p):\n    return [a for b in p for a in b]\n", "def f(p):\n    return 'a%'\n", "A = 1\nA = 2\n",
    "def f(p):\n    q = zip(p, p)\n    return list(q)\n", "def f(p):\n    return p.items()\n",
    "def f(p):\n    return [len, p]\n", "def f(p):\n    return int(p, base=2)\n", "def f(p) -> int:\n    return p\n",
    "def f(p):\n    q: int = p\n    return q\n", "class C:\n    a = 1\n",
    "def f(p):\n    try:\n        return p[0]\n    except Exception:\n        return 1\n",
    "from acre.points import turn\n\n\ndef f(turn):\n    return turn\n",
    "from acre.points import turn\n\n\ndef f(p):\n    turn = p\n    return turn\n",
    "def f(p):\n    return f'{p + 1}'\n",
]


class Form(unittest.TestCase):
    def test_only_modules_lie_in_the_package(self):
        names = [path.name for path in PACKAGE.iterdir() if path.name != "__pycache__"]
        self.assertIn("__init__.py", names)
        for name in names:
            with self.subTest(name=name):
                self.assertRegex(name, "^[a-z_][a-z0-9_]*[.]py$")

    def test_the_package_keeps_to_its_language(self):
        for path in sorted(PACKAGE.glob("*.py")):
            with self.subTest(name=path.name):
                self.assertEqual(faults(path.read_text(encoding="utf-8")), [])

    def test_names_are_drawn_from_where_they_stand(self):
        sources = {f"acre.{path.stem}": path.read_text(encoding="utf-8") for path in PACKAGE.glob("*.py")}
        self.assertEqual(faults_of_drawing(sources), [])
        self.assertNotEqual(faults_of_drawing({"acre.a": "from acre.b import c\n", "acre.b": ""}), [])
        ring = {"acre.a": "from acre.b import d\nc = 1\n", "acre.b": "from acre.a import c\nd = 1\n"}
        self.assertNotEqual(faults_of_drawing(ring), [])

    def test_what_is_ruled_out_is_seen(self):
        for source in RULED_OUT:
            with self.subTest(source=source):
                self.assertNotEqual(faults(source), [])


if __name__ == "__main__":
    unittest.main()

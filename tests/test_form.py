import pathlib
import unittest

from tests.form import faults

PACKAGE = pathlib.Path(__file__).resolve().parent.parent / "acre"

RULED_OUT = [
    "import time\n", "from random import choice\n", "from math import gcd\n", "from .errors import NoNumber\n",
    "def f(p):\n    return open(p)\n", "def f(p):\n    return p / 2\n", "def f(p):\n    return 0.5\n",
    "def f(p):\n    print(p)\n", "def f(*p):\n    return p\n", "def f(p):\n    return p is 3\n",
    "def f(p):\n    p.sort()\n", "def f(p):\n    for q in p:\n        pass\n    else:\n        pass\n",
    "def f(p):\n    a = b = p\n    return a + b\n", "def f(p):\n    return [*p]\n", "def _f(p):\n    return p\n",
    "def f(id):\n    return id\n", "def f(p):\n    sum = p\n    return sum\n", "# a type\n", "# \u00fc\n", "#\t\n",
    "def f(p):\n" + "    p = p + 1\n" * 40, "#\n" * 401, "#" * 121 + "\n", "if True:\n    pass\n",
]


class Form(unittest.TestCase):
    def test_only_modules_lie_in_the_package(self):
        names = [path.name for path in PACKAGE.iterdir() if path.name != "__pycache__"]
        self.assertIn("__init__.py", names)
        for name in names:
            with self.subTest(name=name):
                self.assertRegex(name, "^[a-z_][a-z0-9_]*[.]py$")

    def test_the_package_keeps_to_its_language(self):
        for path in sorted(PACKAGE.glob("*.py")):
            with self.subTest(name=path.name):
                self.assertEqual(faults(path.read_text(encoding="utf-8")), [])

    def test_what_is_ruled_out_is_seen(self):
        for source in RULED_OUT:
            with self.subTest(source=source):
                self.assertNotEqual(faults(source), [])


if __name__ == "__main__":
    unittest.main()

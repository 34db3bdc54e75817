import ast
import pathlib
import re
import unittest

from language import clash_faults, faults

PACKAGE = pathlib.Path(__file__).resolve().parent.parent / "tellworld"
WRONG = (
    "import os\n",
    "from os import path\n",
    "from .words import is_name\n",
    "print(1)\n",
    "x = 1.5\n",
    "x = '\u00e4'\n",
    "x = 'a type'\n",
    "x = '5 %'\n",
    "x = 1\nx = 2\n",
    "def f(*xs):\n    return xs\n",
    "def f(x):\n    return x / 2\n",
    "def f(x):\n    return {y for y in x}\n",
    "def f(x):\n    return all(y for y in x)\n",
    "def f(x):\n    return getattr(x, 'y')\n",
    "def f(x):\n    return x.casefold()\n",
    "def f(x):\n    assert x\n",
    "def f(x):\n    with x:\n        pass\n",
    "def f(x, y):\n    return x is y\n",
    "def f(len):\n    return len\n",
    "def f(x):\n    import tellworld.words\n",
    "def _f(x):\n    return x\n",
    "def f(x):\n" + "    x = x + 1\n" * 40,
    "x = '" + "b" * 120 + "'\n",
    "class C:\n    x = 1\n",
    "class C(ValueError, KeyError):\n    pass\n",
    "def f(x):\n    return x in {1, 2, 3}\n",
    "def f(filter):\n    return filter\n",
    "from tellworld.words import is_name\ndef f(is_name):\n    return is_name\n",
    "class C:\n    pass\ndef f(x):\n    C = x\n    return C\n",
    "class C:\n    pass\ndef f():\n    return [C]\n",
    "class C:\n    pass\ndef f(x):\n    return x(C)\n",
    "class C:\n    def x(self):\n        return 1\nclass D:\n    def __init__(self):\n        self.x = 1\n",
    "class C:\n    def x(self):\n        return 1\n    def x(self):\n        return 2\n",
    "class C:\n    def __init__(self):\n        return None\n",
    "def f(x):\n    try:\n        return x[0]\n    except TypeError:\n        return 0\n",
    "def f(x):\n    try:\n        return x[0]\n    except (KeyError, Exception):\n        return 0\n",
    "def f(x):\n    try:\n        return x[0]\n    except:\n        return 0\n",
    "def f(x):\n    y = zip(x, x)\n    return y\n",
    "def f(x):\n    return x.items()\n",
    "def f(x):\n    return set(x)\n",
    "def f(x):\n    for y in set(x):\n        return y\n",
    "def f(x):\n    return sorted(set(x), key=len)\n",
    "def f(x):\n    return [len, x]\n",
    "def f(x):\n    return dict(y=x)\n",
    "def f(x):\n    return x.split(sep=' ')\n",
)
RIGHT = (
    "def f(x):\n    return sorted(set(x))\n",
    "def f(x):\n    return len(set(x)) == len(x) and set(x) == set(x)\n",
    "def f(x):\n    return [y for y, z in zip(x, x)] + list(x.items())\n",
    "def f(x):\n    return sorted(x, key=len, reverse=True)\n",
    "class C:\n    pass\ndef f(x):\n    return isinstance(x, (C, int)) or C()\n",
)


class Language(unittest.TestCase):
    def test_the_package_keeps_to_it(self):
        for path in sorted(PACKAGE.rglob("*.py")):
            with self.subTest(path=path.name):
                self.assertEqual(faults(path.read_text(encoding="utf-8")), [])

    def test_no_name_is_a_method_here_and_a_value_there(self):
        self.assertEqual(clash_faults([path.read_text(encoding="utf-8") for path in PACKAGE.rglob("*.py")]), [])

    def test_what_is_inside_is_let_by(self):
        for source in RIGHT:
            with self.subTest(source=source):
                self.assertEqual(faults(source), [])

    def test_only_plain_files_lie_in_the_package(self):
        for path in PACKAGE.iterdir():
            if path.name != "__pycache__":
                with self.subTest(path=path.name):
                    self.assertRegex(path.name, r"^(__init__|__main__|[a-z][a-z0-9_]*)\.py$")
                    self.assertNotRegex(path.name, r"^(test|site|conftest)")

    def test_each_import_is_from_the_file_that_defines_the_name(self):
        for path in sorted(PACKAGE.glob("*.py")):
            for node in ast.walk(ast.parse(path.read_text(encoding="utf-8"))):
                if isinstance(node, ast.ImportFrom):
                    source = (PACKAGE / (node.module.split(".")[-1] + ".py")).read_text(encoding="utf-8")
                    for alias in node.names:
                        with self.subTest(path=path.name, name=alias.name):
                            self.assertTrue(re.search(rf"^(def |class )?{alias.name}\b", source, re.MULTILINE))

    def test_no_files_draw_from_one_another(self):
        drawn = {}
        for path in PACKAGE.glob("*.py"):
            tree = ast.parse(path.read_text(encoding="utf-8"))
            froms = [node.module for node in ast.walk(tree) if isinstance(node, ast.ImportFrom)]
            drawn[path.stem] = [name.split(".")[-1] for name in froms]
        while drawn:
            ends = [name for name, froms in drawn.items() if not [other for other in froms if other in drawn]]
            self.assertNotEqual(ends, [], drawn)
            drawn = {name: froms for name, froms in drawn.items() if name not in ends}

    def test_what_is_outside_is_seen(self):
        for source in WRONG:
            with self.subTest(source=source):
                self.assertNotEqual(faults(source), [])


if __name__ == "__main__":
    unittest.main()

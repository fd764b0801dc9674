"""The package keeps to the small part of Python that it is written in, and the reading that says so sees breaches."""

import pathlib
import unittest

from tests.language import CHECKS, PACKAGE, faults

FOLDER = pathlib.Path(__file__).resolve().parent.parent / PACKAGE

PLAIN = {
    "__init__.py": '"""A package."""\n',
    "errors.py": "class OwnError(ValueError):\n    pass\n\n\nclass NoThing(OwnError):\n    pass\n",
    "helper.py": '''"""A helper."""

from lackstretch.errors import NoThing

MOST = 60
SIGNS = "0123"
PARTS = [1, (2, 3)]
NAMES = {"one": 1}


def check(thing):
    if not isinstance(thing, (int, str)) or isinstance(thing, bool):
        raise NoThing("a thing")
    return thing is not None and NAMES.get("one") == PARTS[0] and thing in PARTS


def read(text):
    try:
        number = int(text)
    except ValueError as e:
        raise NoThing(f"no number: {text!r}") from e
    return number


class Kept:
    def __init__(self, many):
        self.many = list(many)
        self.title = "kept"

    def total(self, scale=1):
        told = 0
        for k, each in enumerate(self.many):
            told += each * scale ** 2 - k
        while told > MOST:
            told = told // 2
        return told

    def unlike(self):
        return len(set(self.many)), sorted(set(self.many)), max([each for each in self.many if each > 0], default=0)

    def __len__(self):
        return len(self.many)
''',
    "other.py": '''from lackstretch.errors import NoThing
from lackstretch.helper import Kept, check


def ordered(things):
    kept = Kept(things)
    try:
        check(kept.total())
    except NoThing:
        return []
    by_size = sorted(things, key=lambda each: -each, reverse=True)
    return list(reversed(by_size)) + [each for each in range(3) if each not in {1, 2, 3}]


def joined(table):
    for key in list(table):
        table[key] = 0
    return "-".join([f"{key}" for key, thing in table.items()])
''',
}

def rows(*told):
    return "".join(f"{row}\n" for row in told)


def body(*told):
    """A function with such rows."""
    return rows("def f(a, b, n, e):", *[f"    {row}" for row in told])


# By rules: texts of a file, each of which breaks that rule, perhaps others too.
BROKEN = {
    "L1": [
        {"on-e.py": ""}, {"notes.txt": ""}, {"one two.py": ""},
    ],
    "L2": [
        "import os\n", "from os import path\n", "from .errors import NoThing\n", "import sys\n",
        body("from lackstretch.errors import NoThing", "return NoThing"), "from lackstretch.errors import *\n",
        rows("A = 1", "from lackstretch.errors import NoThing"), "from __future__ import division\n",
        "from lackstretch.__main__ import run\n", "from . import errors\n",
    ],
    "L3": [
        "print(1)\n", "A = [k for k in [1]]\n", "A = len([1])\n", rows("for k in [1]:", "    pass"), "A = 1 + 1\n",
        "A = {1, 2}\n", rows("if True:", "    A = 1"), "A, B = 1, 2\n", rows("A = 1", "B = A"),
        rows("A = [f]", "def f():", "    pass"), "A = 1.5\n",
    ],
    "L4": [
        rows("def f(*xs):", "    pass"), rows("def f(**xs):", "    pass"), rows("def f(*, a):", "    pass"),
        rows("def f(a, /):", "    pass"), rows("def f(a=len([1])):", "    pass"),
        rows("def g(f):", "    return f", "@g", "def f():", "    pass"), body("return lambda *xs: 1"),
        body("k = 1", "def g():", "    k = 2", "    return k", "return g() + k"),
        body("def g():", "    def h():", "        a = 2", "        return a", "    return h()", "return g()"),
    ],
    "L5": [
        rows("class A:", "    value = 1"),
        rows("class A:", "    pass", "class B:", "    pass", "class C(A, B):", "    pass"),
        rows("class A(dict):", "    pass"), rows("class A:", "    def __hash__(self):", "        return 1"),
        rows("def g(c):", "    return c", "@g", "class A:", "    pass"), rows("class A(B):", "    pass"),
    ],
    "L6": [
        body("with a:", "    pass"), body("del a"), body("assert a"), rows("def f():", "    global A"),
        body("yield 1"), body("a == 1"), body("a = b = 1", "return a, b"),
        body("for k in a:", "    pass", "else:", "    pass"), rows("async def f():", "    pass"),
        body("try:", "    a()", "except:", "    pass"), body("match a:", "    case 1:", "        pass"),
        body("try:", "    a()", "finally:", "    pass"), body("while a:", "    pass", "else:", "    pass"),
    ],
    "L7": [
        body("return a / 2"), body("return 1.5"), body("return b'1'"), body("return {k for k in a}"),
        body("return {k: 1 for k in a}"), body("return sum(k for k in a)"), body("return [k for j in a for k in j]"),
        body("return [k for k in a if k if k > 1]"), body("return [*a]"), body("return {**a}"),
        body("if (b := a):", "    return b"), body("return f'{a:>3}'"), body("return f'{a + 1}'"),
        body("return f'{a!s}'"), "A = {1, 2}\n", body("return a @ a"), body("return 1j"), body("return ..."),
    ],
    "L8": [
        body("return map(a, [1])"), body("return float(a)"), body("print(a)"), body("len = 1", "return len"),
        rows("def len(a):", "    return a"), body("return a.__class__"), body("return a.format(1)"),
        body("return next(a)"), rows("def __f():", "    pass"), body("return a.__dict__"),
    ],
    "L9": [
        body("print('a')"), body("return open('a')"), body("return sys.stdin"),
    ],
    "L10": [
        body(*["a = 1"] * 40), "A = 1\n" * 401, "A = '" + "a" * 120 + "'\n", rows("def f():", "\treturn 1"),
    ],
    "L11": [
        body("for k in set(a):", "    return k"), body("return [k for k in {1, 2}]"),
        body("return f(a, b, n - 1, e)"),
        rows("def f(n):", "    return g(n - 1)", "def g(n):", "    return [f(k) for k in range(n)]"),
        rows("class A:", "    def b(self, n):", "        return self.c(n)", "    def c(self, n):",
             "        return self.b(n - 1)"),
    ],
    "L12": [
        body("_a = 1", "return _a"), body("for _ in a:", "    pass"), rows("def _f():", "    pass"),
        rows("class _A:", "    pass"), body("a._b = 1"), rows("def f(\u00e4):", "    return 1"),
    ],
    "L13": [
        body("a = {1, 2, 3}", "return 1 in a"), body("return [lambda a: 1, lambda a: 2]"),
    ],
    "L14": [
        {"One.py": ""}, {"test.py": ""}, {"test_one.py": ""}, {"len.py": ""}, {"site.py": ""}, {"enum.py": ""},
        {"part/one.py": ""}, {"part/__init__.py": "", "part/__main__.py": ""}, "A = '\u00e4'\n",
        rows("# \u00e4", "A = 1"),
    ],
    "L15": [
        rows("A = 1", "A = 2"), rows("def f():", "    pass", "def f():", "    pass"),
        body("class A:", "    pass", "return A()"), "A = [[1]]\n", "A = {1: [1]}\n",
        rows("A = [1]", "def f():", "    A.append(1)"), rows("A = [1]", "def f():", "    A[0] = 1"),
        rows("A = [1]", "def f():", "    return A"),
        rows("A = [1]", "def g(a):", "    return a", "def f():", "    return g(A)"),
        rows("def f(id):", "    return id"), rows("def f(hash):", "    return 1"),
        body("for min in a:", "    return 1"), rows("class A:", "    pass", "def f(A):", "    return 1"),
        rows("from lackstretch.helper import check", "def f():", "    check = 1", "    return check"),
    ],
    "L16": [
        "from lackstretch import errors\n", "from lackstretch.helper import NoThing\n",
        "from lackstretch.errors import Missing\n", "from lackstretch.missing import thing\n",
        {"one.py": rows("from lackstretch.two import g", "def f():", "    return g()"),
         "two.py": rows("from lackstretch.one import f", "def g():", "    return f()")},
        {"__init__.py": "from lackstretch.errors import NoThing\n"}, {"__init__.py": "helper = 1\n"},
    ],
    "L17": [
        body("return type(a)"), body("return a.register()"), rows("def f(open):", "    return 1"), "# a type\n",
        "A = 'Enum'\n", "# mydataclasses\n", body("return getattr(a, 'b')"), body("return a.f_back"),
        rows("A = 1", "def f():", "    return __name__"), rows("def vars():", "    pass"),
        rows("def f(os):", "    return os"),
    ],
    "L18": [
        rows("class A:", "    pass", "def f():", "    return [A]"),
        rows("class A:", "    pass", "def f():", "    A.b = 1"),
        rows("class A:", "    def b(self):", "        pass", "class B:", "    def __init__(self):",
             "        self.b = 1"),
        rows("class A:", "    def b(self):", "        pass", "    def b(self):", "        pass"),
        rows("class A(AttributeError):", "    pass"), rows("class A(StopIteration):", "    pass"),
        rows("def g():", "    pass", "def f():", "    g.b = 1"), body("a.b.c = 1"), body("return ValueError"),
    ],
    "L19": [
        body("try:", "    return a()", "except Exception:", "    return 1"),
        body("try:", "    return a + 1", "except TypeError:", "    return 1"),
        rows("def g():", "    pass", "def f(a):", "    try:", "        g()", "        return int(a)",
             "    except ValueError:", "        return 1"),
        body("try:", "    return int(a) * 2", "except ValueError:", "    return 1"),
        body("try:", "    return int(a[1:])", "except ValueError:", "    return 1"),
        body("try:", "    return a.pop()", "except IndexError:", "    return 1"),
        body("e = ValueError('a')", "raise e"), body("try:", "    return a[0]", "except KeyError:", "    raise"),
        body("raise ValueError('a') from e"), body("try:", "    return a", "except OSError:", "    return 1"),
        body("try:", "    return int(a)", "except (KeyError, TypeError):", "    return 1"),
        # A class of the package has __len__.
        body("try:", "    return a[0] == 1", "except IndexError:", "    return 1"),
        body("try:", "    return str(a)", "except ValueError:", "    return 1"),
        body("try:", "    return int(a) if a else 0", "except ValueError:", "    return 1"),
    ],
    "L20": [
        body("return a is b"), body("return a is not 1"), body("return a is 0"),
    ],
    "L21": [
        rows("def f(a: int):", "    return a"), rows("def f() -> int:", "    return 1"), "A: int = 1\n",
        body("a: int", "a = 1", "return a"),
    ],
    "L22": [
        body("return isinstance(a, b)"), body("return isinstance(a, set)"), body("a = len", "return a"),
        body("return sorted(a, key=repr)"), body("return int(a, base=2)"), body("return sorted(a, reverse=b)"),
        body("return a.split(sep=' ')"), body("return zip(a, a, strict=1)"), body("return [len, a]"),
        rows("from lackstretch.errors import NoThing", "def f():", "    raise NoThing(words='a')"),
    ],
    "L23": [
        body("a = range(3)", "return a"), body("return a.items()"), body("return reversed(range(a))"),
        body("for k in reversed(range(a)):", "    return k"), body("return len(range(a))"),
        body("for k in a:", "    a.append(k)"), body("for k in range(3), a:", "    return k"),
        body("for k, each in enumerate(a):", "    a[k] = 1"), body("for k in a.items():", "    a.pop(k)"),
        body("for k in a:", "    a += [k]"), body("return min(range(a), b)"), body("return b.join(a.keys())"),
    ],
    "L24": [
        body("b = set(a)", "return 1 in b"), body("return set(a)"), body("for k in set(a):", "    return k"),
        body("return sorted(set(a), key=len)"), body("return list(set(a))"), body("return {1, 2}"),
        body("return set(a) < set(b)"),
    ],
    "L25": [
        body("a.sort()"), body("return a.encode()"), body("return a.capitalize()"), body("b = a.append", "return b"),
        body("return a.rsplit"), body("return a.discard(1)"),
    ],
    "L26": [
        rows("class A:", "    def encode(self):", "        pass"),
        rows("class A:", "    def sort(self):", "        pass"),
        rows("class A:", "    def __init__(self):", "        self.items = 1"),
        rows("class A:", "    def __init__(self):", "        self.args = 1"),
        rows("class A:", "    def __init__(self):", "        self.real = 1"),
        rows("class A:", "    def __init__(self):", "        self.sort = 1"),
    ],
    "L27": [
        body("return 2 ** n"), "A = '5 %'\n", body("return chr(n)"), "A = '\\x41'\n", "A = '\\u0041'\n",
        body("return n ** 65"), body("return n ** -1"), "A = 0x" + "f" * 760 + "\n", body("n **= n", "return n"),
        body("return f'{n}%'"),
    ],
    "L28": [
        rows("class A:", "    def __init__(self):", "        return None"),
        rows("class A:", "    def __len__(self):", "        return self.many"),
        rows("class A:", "    def __eq__(self, other):", "        self.a = 1", "        return True"),
        rows("class A:", "    def __repr__(self):", "        return self.name"),
        rows("class A:", "    def __str__(self):", "        a = 'a'", "        a += 'b'", "        return f'{a}'"),
        rows("class A:", "    def __eq__(self, other):", "        self.told.append(1)", "        return True"),
    ],
}


def package_texts():
    paths = [path for path in FOLDER.rglob("*") if path.is_file() and "__pycache__" not in path.parts]
    return {path.relative_to(FOLDER).as_posix(): path.read_text(encoding="utf-8") for path in paths}


def with_files(broken):
    return {**PLAIN, **(broken if isinstance(broken, dict) else {"one.py": broken})}


class Language(unittest.TestCase):
    def test_the_package_keeps_to_it(self):
        texts = package_texts()
        self.assertIn("__init__.py", texts)
        self.assertEqual(faults(texts), [])

    def test_what_keeps_to_it_is_let_be(self):
        self.assertEqual(faults(PLAIN), [])
        main = 'import sys\n\n\ndef run():\n    print(sys.stdin.read())\n\n\nif __name__ == "__main__":\n    run()\n'
        self.assertEqual([rule for rule, _, _ in faults({**PLAIN, "__main__.py": main}) if rule != "L25"], [])

    def test_every_rule_is_read(self):
        self.assertEqual(list(CHECKS), [f"L{k}" for k in range(1, 29)])
        self.assertEqual(list(BROKEN), list(CHECKS))

    def test_what_breaks_a_rule_is_seen(self):
        for rule, snippets in BROKEN.items():
            for broken in snippets:
                with self.subTest(rule=rule, broken=broken):
                    told = faults(with_files(broken))
                    self.assertIn(rule, [each for each, _, _ in told])
                    self.assertTrue(all(name not in PLAIN or name in broken for _, name, _ in told), told)


if __name__ == "__main__":
    unittest.main()

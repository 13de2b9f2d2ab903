"""The package keeps to LANGUAGE.md, as far as tests/language.py can see it."""

import os
import unittest

from tests.language import faults_of, package_sources

FOLDER = os.path.join(os.path.dirname(os.path.dirname(os.path.abspath(__file__))), "listasks")


def rules_of(*texts):
    sources = {f"part{number}.py": text for number, text in enumerate(texts)}
    return [fault.split(" ")[1] for fault in faults_of(sources)]


class PackageTest(unittest.TestCase):
    def test_the_package_has_no_fault(self):
        self.assertEqual(faults_of(package_sources(FOLDER)), [])

    def test_the_folder_holds_python_files_alone(self):
        names = [name for name in os.listdir(FOLDER) if name != "__pycache__"]
        self.assertIn("__init__.py", names)
        self.assertTrue(all(name.endswith(".py") for name in names))
        self.assertLessEqual(len(names), 100)


class ReaderTest(unittest.TestCase):
    def test_good_code_has_no_fault(self):
        self.assertEqual(rules_of('"""A file."""\n\nMOST = 4\n\n\ndef most(xs):\n    return len(xs) < MOST\n'), [])

    def test_faults_are_found(self):
        cases = (
            ("import os\n", "L6"),
            ("X = [[1]]\n", "L3"),
            ("def f(xs):\n    return any(x for x in xs)\n", "L7"),
            ("def f(xs):\n    return xs / 2\n", "L7"),
            ("def f(xs):\n    r = zip(xs, xs)\n    return r\n", "L23"),
            ("def f(xs):\n    for x in xs:\n        xs.append(x)\n", "L23"),
            ("def f(xs):\n    xs.sort()\n", "L25"),
            ("def f(id):\n    return id\n", "L17"),
            ("def f(x):\n    return hash(x)\n", "L8"),
            ("def f(x):\n    return x is f\n", "L20"),
            ("def f(x):\n    return '50%'\n", "L27"),
            ("def f(x):\n    for y in {1, 2}:\n        return y\n", "L24"),
            ("def f(x):\n    try:\n        return x[0]\n    except IndexError:\n        return 0\n", "L19"),
            ("def f(x):\n" + "    x = x + 1\n" * 40, "L10"),
            ("class A:\n    @property\n    def many(self):\n        return sum(self.rows)\n", "L5"),
            ("class A:\n    @property\n    def many(self):\n        return self.x\n\n\ndef f(a):\n    return a.many()\n", "L5"),
            ("class A:\n    def f(self):\n        return 1\n\n\nclass B:\n    def __init__(self):\n        self.f = 1\n", "L18"),
            ("def f(a):\n    return a.many\n", "L18"),
        )
        for text, rule in cases:
            with self.subTest(text=text):
                self.assertIn(rule, rules_of(text))

    def test_what_a_loop_walks_is_not_changed_in_it(self):
        walked = "class A:\n    def __iter__(self):\n        return iter(self.rows)\n"
        bad = (
            "for x in zip(a.rows, b):\n        a.lots[x] = 1",
            "for x in zip(b, a.rows):\n        del a.lots[x]",
            "for x in a:\n        a.rows = x",
            "for x in a.rows:\n        a.rows.append(x)",
            "for x in a.rows:\n        a.marks[0].n += 1",
            "for x in a:\n        a = x",
            "for x in a if b else c:\n        c.pop()",
            "for x in a or c:\n        if x:\n            c.clear()",
            "for x in enumerate(reversed(a[0])):\n        a[1].add(x)",
            "for x in a.rows.items():\n        a.rows[x] = 1",
            "for x in steps(b, a):\n        a.n = 1",
            "b = [a.pop() for x in a]",
            "b = [x for x in b for y in a if a.pop()]",
            "a.rows.extend(a)",
            "b = iter(a.rows)\n    a.rows.append(c)\n    return next(b, None)",
            "b = enumerate(a)\n    for x in b:\n        a[0] = x",
        )
        good = (
            "for x in list(a.rows):\n        a.lots[x] = 1",
            "for x in sorted(a):\n        a.rows = x",
            "for x in range(len(a)):\n        a[x] = 1",
            "for x in a.rows:\n        b.rows.append(x)",
            "for x in zip(b, list(a)):\n        x.n = a",
            "b = [c.pop() for x in a]",
            "a.extend(list(a))",
            "a.n = 1\n    b = iter(a.rows)\n    return next(b, None)",
        )
        for rows in bad:
            with self.subTest(rows=rows):
                text = f"\n\ndef f(a, b, c):\n    {rows}\n"
                self.assertIn("L5", rules_of(walked + text))
                self.assertIn("L5", rules_of(walked, text.lstrip()))
                self.assertNotIn("L5", rules_of(text.lstrip()))
        for rows in good:
            with self.subTest(rows=rows):
                self.assertNotIn("L5", rules_of(walked + f"\n\ndef f(a, b, c):\n    {rows}\n"))

    def test_two_files_do_not_import_from_each_other(self):
        one = "from listasks.part1 import g\n\n\ndef f(x):\n    return g(x)\n"
        two = "from listasks.part0 import f\n\n\ndef g(x):\n    return f(x)\n"
        self.assertIn("L16", rules_of(one, two))


if __name__ == "__main__":
    unittest.main()

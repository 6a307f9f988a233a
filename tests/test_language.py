import ast
import unittest
from pathlib import Path

from tests.language import bound_at_top, draws, findings, of_file_name

FOLDER = Path(__file__).resolve().parent.parent / "stampsheet"
PATHS = [path for path in sorted(FOLDER.iterdir()) if path.name != "__pycache__"]
FILES = {path.stem: ast.parse(path.read_text(encoding="utf-8")) for path in PATHS if path.suffix == ".py"}
OWN_ERRORS = bound_at_top(FILES["errors"])

OUTSIDE = [
    ("L3", "import math\n"),
    ("L2", "from math import gcd\n"),
    ("L16", "from stampsheet.sheets import *\n"),
    ("L2", "from .sheets import near\n"),
    ("L2", "def one():\n    return 1\n\n\nfrom stampsheet.sheets import near\n"),
    ("L16", "from stampsheet.pieces import checked\n"),
    ("L3", "print(1)\n"),
    ("L3", "KEPT = list()\n"),
    ("L4", "def one(*all_of_them):\n    return 1\n"),
    ("L4", "def one(two=[]):\n    return two\n"),
    ("L5", "class One:\n    two = 2\n"),
    ("L6", "def one(two):\n    del two\n"),
    ("L6", "def one(two):\n    assert two\n"),
    ("L6", "def one(two):\n    three = four = two\n    return three + four\n"),
    ("L6", "def one():\n    \"\"\"Words.\"\"\"\n    return 1\n"),
    ("L6", "def one():\n    yield 1\n"),
    ("L7", "ONE = 1.0\n"),
    ("L7", "def one(two):\n    return two / 2\n"),
    ("L7", "def one(two):\n    return {three for three in two}\n"),
    ("L7", "def one(two):\n    return all(three for three in two)\n"),
    ("L7", "def one(two):\n    return [four for three in two for four in three]\n"),
    ("L7", "def one(two):\n    return {1, two}\n"),
    ("L8", "def one(two):\n    return hash(two)\n"),
    ("L10", "ONE = 1" + " " * 120 + "\n"),
    ("L10", "def one(two):\n" + "    two += 1\n" * 40 + "    return two\n"),
    ("L12", "def one(two):\n    for _ in two:\n        pass\n"),
    ("L14", "ONE = '\u00e9'\n"),
    ("L14", "def one():\n\treturn 1\n"),
    ("L15", "ONE = 1\nONE = 2\n"),
    ("L15", "def one(min):\n    return min\n"),
    ("L15", "from stampsheet.sheets import near\n\n\ndef one():\n    near = 1\n    return near\n"),
    ("L17", "# the type of it\n"),
    ("L17", "def one(two):\n    return two.__class__\n"),
    ("L19", "def one(two):\n    try:\n        return two()\n    except Exception:\n        return 1\n"),
    ("L19", "def one(two):\n    try:\n        return two()\n    except:\n        return 1\n"),
    ("L20", "def one(two):\n    return two is 3\n"),
    ("L21", "def one(two: int):\n    return two\n"),
    ("L22", "def one(two):\n    return sorted(two, cmp=3)\n"),
    ("L22", "def one(two):\n    three = len\n    return three(two)\n"),
    ("L22", "def one(two):\n    return sorted(two, key=list)\n"),
    ("L23", "def one(two):\n    three = zip(two, two)\n    return list(three)\n"),
    ("L24", "def one(two):\n    three = set(two)\n    return sorted(three)\n"),
    ("L24", "def one(two):\n    return set(two)\n"),
    ("L24", "def one(two):\n    return [three for three in set(two)]\n"),
    ("L24", "def one(two):\n    return list(set(two))\n"),
    ("L24", "def one(two):\n    return set(two) == two\n"),
    ("L24", "def one(two):\n    return sorted(set(two) - two)\n"),
    ("L24", "def one(two):\n    return sorted(set(two), reverse=True)\n"),
    ("L25", "def one(two):\n    return two.sort()\n"),
    ("L27", "ONE = '%'\n"),
    ("L27", "def one(two):\n    return 2 ** two\n"),
]

WITHIN = [
    "def one(two):\n    return sorted(set(two))\n",
    "def one(two, three):\n    return sorted(set(two) - set(three))\n",
    "def one(two, three):\n    return len(set(two) & set(three) | set(two))\n",
    "def one(two, three):\n    return two in set(three) or set(two) == set(three)\n",
]


class Language(unittest.TestCase):
    def test_only_plain_files_lie_in_the_package(self):
        self.assertIn("__init__", FILES)
        for path in PATHS:
            with self.subTest(path=path.name):
                self.assertTrue(path.is_file())
                self.assertEqual(path.suffix, ".py")
                self.assertEqual(of_file_name(path.stem), [])

    def test_every_file_keeps_to_the_rules(self):
        for path in PATHS:
            with self.subTest(path=path.name):
                text = path.read_text(encoding="utf-8")
                self.assertEqual(findings(text, FILES, OWN_ERRORS), [])

    def test_no_two_files_draw_from_one_another(self):
        for stem, others in draws(FILES).items():
            self.assertNotIn(stem, others)

    def test_the_package_itself_binds_no_name(self):
        self.assertEqual(bound_at_top(FILES["__init__"]), [])

    def test_what_lies_outside_is_found(self):
        for rule, text in OUTSIDE:
            with self.subTest(rule=rule, text=text):
                found = [finding for finding in findings(text, FILES, OWN_ERRORS) if rule in finding.split()]
                self.assertNotEqual(found, [])

    def test_what_lies_within_is_not_found(self):
        for text in WITHIN:
            with self.subTest(text=text):
                self.assertEqual(findings(text, FILES, OWN_ERRORS), [])

    def test_file_names_that_are_not_used_are_found(self):
        for stem in ["Sheets", "test_sheets", "tests", "site", "sum", "enum", "_own", "sheets-old"]:
            with self.subTest(stem=stem):
                self.assertNotEqual(of_file_name(stem), [])


if __name__ == "__main__":
    unittest.main()

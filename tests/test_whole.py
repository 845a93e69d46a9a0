"""Points [1] and [2] and the interface: what holds for the whole program."""

import ast
import unittest
from copy import deepcopy
from pathlib import Path

from moatways.growths import growth, moats, moments, told
from moatways.nets import groups, joins, price, spare
from moatways.papers import is_fine_paper, is_paper, worth
from tests.helper import EXAMPLE, EXAMPLE_PAIRS, small_tasks

PACKAGE = Path(__file__).resolve().parent.parent / "moatways"

INTERFACE = {
    "nets": {
        "groups": ["net", "choice"],
        "joins": ["net", "pairs", "choice"],
        "price": ["net", "choice"],
        "spare": ["net", "pairs", "choice"],
    },
    "growths": {
        "growth": ["net", "pairs"],
        "moments": ["net", "pairs"],
        "told": ["net", "pairs"],
        "moats": ["net", "pairs"],
    },
    "papers": {
        "is_paper": ["net", "pairs", "paper"],
        "worth": ["paper"],
        "is_fine_paper": ["net", "root", "fines", "paper"],
    },
}
ERRORS = {"MoatError": "ValueError", "Apart": "MoatError",
          "BadText": "MoatError", "Refused": "MoatError"}


def trees():
    return {path.stem: ast.parse(path.read_text()) for path in sorted(PACKAGE.glob("*.py"))}


class Interface(unittest.TestCase):
    def test_the_functions_are_defined_in_their_files(self):
        found = trees()
        for name, functions in INTERFACE.items():
            defined = {
                node.name: [argument.arg for argument in node.args.args]
                for node in found[name].body
                if isinstance(node, ast.FunctionDef)
            }
            for function, arguments in functions.items():
                self.assertEqual(defined.get(function), arguments, function)

    def test_the_errors_are_defined_in_their_file(self):
        defined = {
            node.name: [base.id for base in node.bases]
            for node in trees()["errors"].body
            if isinstance(node, ast.ClassDef)
        }
        for name, base in ERRORS.items():
            self.assertEqual(defined.get(name), [base])


class TheFiles(unittest.TestCase):
    def test_imports(self):
        for name, tree in trees().items():
            for node in ast.walk(tree):
                self.assertNotIsInstance(node, ast.Import, name)
                if isinstance(node, ast.ImportFrom):
                    self.assertTrue(
                        node.module == "math" or node.module.startswith("moatways."), name
                    )

    def test_sizes_and_characters(self):
        for path in sorted(PACKAGE.glob("*.py")):
            lines = path.read_text().split("\n")
            self.assertLessEqual(len(lines), 399, path.name)
            for line in lines:
                self.assertLessEqual(len(line), 120, path.name)
                self.assertTrue(all(" " <= sign <= "~" for sign in line), path.name)

    def test_functions_are_short(self):
        for name, tree in trees().items():
            for node in ast.walk(tree):
                if isinstance(node, ast.FunctionDef):
                    self.assertLessEqual(node.end_lineno - node.lineno + 1, 40, name)


class Arguments(unittest.TestCase):
    def check(self, function, *arguments):
        before = deepcopy(arguments)
        first = function(*arguments)
        self.assertEqual(arguments, before)
        self.assertEqual(repr(arguments), repr(before))
        self.assertEqual(function(*arguments), first)

    def test_no_argument_is_modified(self):
        tasks = [(EXAMPLE, EXAMPLE_PAIRS)] + small_tasks(40, 20)
        for net, pairs in tasks:
            every = tuple(range(len(net[1])))
            for function in (growth, moments, told, moats):
                self.check(function, net, pairs)
            self.check(groups, net, every)
            self.check(price, net, every)
            self.check(joins, net, pairs, every)
            self.check(spare, net, pairs, every)
            paper = moats(net, pairs)
            self.check(is_paper, net, pairs, paper)
            self.check(worth, paper)
            self.check(is_fine_paper, net, 0, (3,) * net[0], paper)

    def test_lists_would_stay_as_they_are(self):
        # Tuples cannot be modified; lists in their places show that nobody tries.
        net = [4, [[0, 1, 4], [1, 2, 4], [2, 3, 4], [0, 3, 20]]]
        pairs = [[0, 2], [1, 3]]
        for function in (growth, moments, told, moats):
            self.check(function, net, pairs)
        self.check(groups, net, [0, 2])
        self.check(price, net, [0, 2])
        self.check(joins, net, pairs, [0, 2])
        self.check(spare, net, pairs, [0, 1, 2, 3])
        paper = [((0,), [2, 1]), ((1,), [2, 1])]
        self.check(is_paper, net, pairs, paper)
        self.check(worth, paper)
        self.check(is_fine_paper, net, 3, [1, 2, 3, 4], paper)

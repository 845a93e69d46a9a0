"""Points [1] and [2] and the interface: what holds for the whole program."""

import ast
import unittest
from copy import deepcopy
from pathlib import Path

from moatways.errors import Apart, BadText, MoatError, Refused
from moatways.fines import fine_moats, fined, reach
from moatways.growths import growth, moats, moments, told
from moatways.least import least_price
from moatways.nets import groups, joins, price, spare
from moatways.papers import is_fine_paper, is_paper, worth
from moatways.texts import read_task, write_task
from moatways.yard import Yard
from tests.helper import EXAMPLE, EXAMPLE_PAIRS, fine_tasks, small_tasks

PACKAGE = Path(__file__).resolve().parent.parent / "moatways"

INTERFACE = {
    "nets": {
        "groups": ["net", "choice"],
        "joins": ["net", "pairs", "choice"],
        "price": ["net", "choice"],
        "spare": ["net", "pairs", "choice"],
    },
    "growths": {
        "growth": ["net", "pairs"],
        "moments": ["net", "pairs"],
        "told": ["net", "pairs"],
        "moats": ["net", "pairs"],
    },
    "papers": {
        "is_paper": ["net", "pairs", "paper"],
        "worth": ["paper"],
        "is_fine_paper": ["net", "root", "fines", "paper"],
    },
    "least": {"least_price": ["net", "pairs"]},
    "fines": {
        "fined": ["net", "root", "fines", "choice"],
        "reach": ["net", "root", "fines"],
        "fine_moats": ["net", "root", "fines"],
    },
    "texts": {
        "write_task": ["net", "pairs"],
        "read_task": ["text"],
    },
}
YARD = {
    "__init__": ["self", "places"],
    "build": ["self", "a", "b", "cost"],
    "change": ["self", "way", "cost"],
    "cut": ["self", "way"],
    "want": ["self", "a", "b"],
    "drop": ["self", "a", "b"],
    "task": ["self"],
    "told": ["self"],
    "worked": ["self"],
}
ERRORS = {"MoatError": "ValueError", "Apart": "MoatError",
          "BadText": "MoatError", "Refused": "MoatError"}


def trees():
    return {path.stem: ast.parse(path.read_text()) for path in sorted(PACKAGE.glob("*.py"))}


class Interface(unittest.TestCase):
    def test_the_functions_are_defined_in_their_files(self):
        found = trees()
        for name, functions in INTERFACE.items():
            defined = {
                node.name: [argument.arg for argument in node.args.args]
                for node in found[name].body
                if isinstance(node, ast.FunctionDef)
            }
            for function, arguments in functions.items():
                self.assertEqual(defined.get(function), arguments, function)

    def test_the_methods_of_the_yard_are_defined_in_the_class(self):
        yards = [
            node
            for node in trees()["yard"].body
            if isinstance(node, ast.ClassDef) and node.name == "Yard"
        ]
        self.assertEqual(len(yards), 1)
        defined = {
            node.name: [argument.arg for argument in node.args.args]
            for node in yards[0].body
            if isinstance(node, ast.FunctionDef)
        }
        for method, arguments in YARD.items():
            self.assertEqual(defined.get(method), arguments, method)

    def test_arguments_by_their_names(self):
        yard = Yard(places=2)
        yard.build(a=0, b=1, cost=3)
        yard.change(way=0, cost=4)
        yard.want(a=0, b=1)
        net, pairs = yard.task()
        self.assertEqual(least_price(net=net, pairs=pairs), 4)
        self.assertEqual(reach(net=net, root=0, fines=(0, 9)), ((0,), ()))
        self.assertEqual(fined(net=net, root=0, fines=(0, 9), choice=()), 9)
        self.assertEqual(fine_moats(net=net, root=0, fines=(0, 9)), (((1,), (4, 1)),))
        self.assertEqual(read_task(text=write_task(net=net, pairs=pairs)), (net, pairs))
        yard.drop(a=0, b=1)
        yard.cut(way=0)
        self.assertEqual(yard.task(), ((2, ()), ()))

    def test_all_errors_are_moat_errors(self):
        for kind, function, arguments in (
            (Apart, least_price, ((2, ()), ((0, 1),))),
            (Apart, told, ((2, ()), ((0, 1),))),
            (BadText, read_task, ("",)),
            (Refused, Yard(2).cut, (0,)),
        ):
            with self.assertRaises(MoatError) as caught:
                function(*arguments)
            self.assertIs(type(caught.exception), kind)

    def test_the_errors_are_defined_in_their_file(self):
        defined = {
            node.name: [base.id for base in node.bases]
            for node in trees()["errors"].body
            if isinstance(node, ast.ClassDef)
        }
        for name, base in ERRORS.items():
            self.assertEqual(defined.get(name), [base])


class TheFiles(unittest.TestCase):
    def test_imports(self):
        for name, tree in trees().items():
            for node in ast.walk(tree):
                self.assertNotIsInstance(node, ast.Import, name)
                if isinstance(node, ast.ImportFrom):
                    self.assertTrue(
                        node.module == "math" or node.module.startswith("moatways."), name
                    )

    def test_sizes_and_characters(self):
        for path in sorted(PACKAGE.glob("*.py")):
            lines = path.read_text().split("\n")
            self.assertLessEqual(len(lines), 399, path.name)
            for line in lines:
                self.assertLessEqual(len(line), 120, path.name)
                self.assertTrue(all(" " <= sign <= "~" for sign in line), path.name)

    def test_functions_are_short(self):
        for name, tree in trees().items():
            for node in ast.walk(tree):
                if isinstance(node, ast.FunctionDef):
                    self.assertLessEqual(node.end_lineno - node.lineno + 1, 40, name)


class Arguments(unittest.TestCase):
    def check(self, function, *arguments):
        before = deepcopy(arguments)
        first = function(*arguments)
        self.assertEqual(arguments, before)
        self.assertEqual(repr(arguments), repr(before))
        self.assertEqual(function(*arguments), first)

    def test_no_argument_is_modified(self):
        tasks = [(EXAMPLE, EXAMPLE_PAIRS)] + small_tasks(40, 20)
        for net, pairs in tasks:
            every = tuple(range(len(net[1])))
            for function in (growth, moments, told, moats, least_price, write_task):
                self.check(function, net, pairs)
            self.check(read_task, write_task(net, pairs))
            self.check(groups, net, every)
            self.check(price, net, every)
            self.check(joins, net, pairs, every)
            self.check(spare, net, pairs, every)
            paper = moats(net, pairs)
            self.check(is_paper, net, pairs, paper)
            self.check(worth, paper)
            self.check(is_fine_paper, net, 0, (3,) * net[0], paper)

    def test_no_argument_is_modified_with_fines(self):
        for net, root, fines in fine_tasks(40, 22):
            self.check(reach, net, root, fines)
            self.check(fine_moats, net, root, fines)
            self.check(fined, net, root, fines, tuple(range(len(net[1]))))
            self.check(is_fine_paper, net, root, fines, fine_moats(net, root, fines))

    def test_lists_would_stay_as_they_are(self):
        # Tuples cannot be modified; lists in their places show that nobody tries.
        net = [4, [[0, 1, 4], [1, 2, 4], [2, 3, 4], [0, 3, 20]]]
        pairs = [[0, 2], [1, 3]]
        for function in (growth, moments, told, moats, least_price, write_task):
            self.check(function, net, pairs)
        fines = [3, 5, 0, 9]
        self.check(reach, net, 0, fines)
        self.check(fine_moats, net, 0, fines)
        self.check(fined, net, 0, fines, [0, 2])
        self.check(groups, net, [0, 2])
        self.check(price, net, [0, 2])
        self.check(joins, net, pairs, [0, 2])
        self.check(spare, net, pairs, [0, 1, 2, 3])
        paper = [((0,), [2, 1]), ((1,), [2, 1])]
        self.check(is_paper, net, pairs, paper)
        self.check(worth, paper)
        self.check(is_fine_paper, net, 3, [1, 2, 3, 4], paper)

"""The interface: its names, arguments and files, and the examples of the document."""

import ast
import doctest
import inspect
import unittest
from importlib import import_module
from pathlib import Path

ROOT = Path(__file__).resolve().parent.parent

FUNCTIONS = {
    "points": {"is_point": ["value"], "lowest": ["top", "bottom"], "sorted_points": ["points"]},
    "relations": {"holds": ["relation", "first", "second"], "partners": ["relation", "point"],
                  "quartic": ["relation"]},
    "chains": {"following": ["relation", "first", "second"],
               "chain": ["relation", "first", "second", "length"],
               "member": ["relation", "first", "second", "index"]},
    "closing": {"closing": ["relation"], "closes_after": ["relation", "number"]},
    "steps": {"step_numbers": ["relation", "number"], "is_doubled": ["relation", "number"]},
    "exchange": {"are_exchanged": ["relation", "other"],
                 "meetings": ["relation", "other", "first", "second"]},
    "through": {"free_numbers": ["pairs"], "through": ["pairs"]},
    "primes": {"reduced": ["point", "prime"], "pairs_modulo": ["relation", "prime"],
               "rounds_modulo": ["relation", "prime"],
               "member_modulo": ["relation", "prime", "first", "second", "index"]},
    "polygons": {"side": ["first", "second"], "touched": ["relation"],
                 "touching": ["relation", "first", "second"]},
    "texts": {"show_relation": ["relation"], "show_point": ["point"]},
    "readings": {"read_relation": ["text"], "read_point": ["text"]},
}
CLASSES = {
    "errors": {name: ["value"] for name in [
        "ChainError", "InvalidNumber", "InvalidPoint", "Bent", "NotPair", "NotOne", "InvalidPrime",
        "TooFar", "NothingToUndo", "Unreadable"]},
    "relations": {"Relation": ["numbers"]},
    "walks": {"Walk": ["relation", "first", "second"], "ShortWalk": ["relation", "first", "second", "most"]},
}
PROPERTIES = {("relations", "Relation"): ["numbers"], ("walks", "Walk"): ["place", "pair"]}
METHODS = {("relations", "Relation"): ["__eq__"], ("walks", "ShortWalk"): ["on", "back"],
           ("walks", "Walk"): ["on", "back", "undo", "story", "__len__", "__eq__"]}
EXAMPLES = """
>>> from closechains.points import is_point, lowest, sorted_points
>>> [is_point((3, 2)), is_point((2, 4)), is_point((1, 0)), is_point((0, 1)), is_point([1, 2])]
[True, False, True, True, False]
>>> [lowest(6, -4), lowest(-5, 0), sorted_points([(1, 0), (1, 2), (-7, 1), (1, 3)])]
[(-3, 2), (1, 0), [(-7, 1), (1, 3), (1, 2), (1, 0)]]

>>> from closechains.relations import Relation, holds, partners, quartic
>>> square = Relation([1, 0, 1, -5, 0, 1])
>>> free = Relation([1, 0, 0, 2, -1, 1])
>>> [Relation([0, -2, -2, 18, -4, -2]).numbers, holds(square, (1, 1), (2, 1))]
[[0, 1, 1, -9, 2, 1], True]
>>> [partners(square, (1, 1)), partners(free, (1, 0)), partners(square, (0, 1)), quartic(square)]
[[(1, 2), (2, 1)], [(0, 1)], [], [-4, 0, 17, 0, -4]]

>>> from closechains.chains import chain, following, member
>>> [following(free, (1, 0), (0, 1)), chain(free, (1, 0), (0, 1), 7), member(free, (1, 0), (0, 1), 5)]
[(1, 1), [(1, 0), (0, 1), (1, 1), (-1, 1), (2, 1), (1, 4), (6, 1)], (1, 4)]
>>> five = Relation([0, 1, 1, -9, 2, 1])
>>> [member(square, (1, 1), (2, 1), -1), chain(five, (1, 1), (1, 1), 7)]
[(1, 2), [(1, 1), (1, 1), (2, 1), (3, 1), (2, 1), (1, 1), (1, 1)]]

>>> from closechains.closing import closes_after, closing
>>> from closechains.steps import is_doubled, step_numbers
>>> [closing(square), closing(free), closing(five), closing(Relation([0, 2, 0, -7, 0, 2]))]
[4, None, 5, 3]
>>> [closing(Relation([1, 0, 0, -4, -16, 64])), closes_after(square, 8), closes_after(free, 10 ** 30)]
[7, True, False]
>>> [step_numbers(square, 2), step_numbers(square, 1), step_numbers(square, 4)]
[[1, 0, 0, -2, 0, 1], [1, 0, 1, -5, 0, 1], [0, 0, 1, -2, 0, 0]]
>>> [is_doubled(square, 2), is_doubled(square, 1)]
[True, False]

>>> from closechains.exchange import are_exchanged, meetings
>>> [are_exchanged(square, square), are_exchanged(square, free)]
[True, False]
>>> [meetings(square, square, (1, 1), (1, 1)), meetings(square, free, (1, 1), (1, 1))]
[[(1, 2), (2, 1)], []]

>>> from closechains.through import free_numbers, through
>>> through([((1, 0), (0, 1)), ((0, 1), (1, 1)), ((1, 1), (-1, 1)), ((-1, 1), (2, 1)), ((2, 1), (1, 4))]).numbers
[1, 0, 0, 2, -1, 1]
>>> [free_numbers([((1, 1), (1, 1)), ((1, 1), (2, 1)), ((2, 1), (1, 1))]), free_numbers([])]
[4, 6]

>>> from closechains.primes import member_modulo, pairs_modulo, reduced, rounds_modulo
>>> [reduced((1, 4), 7), reduced((1, 0), 7), pairs_modulo(square, 7)]
[2, 7, [(1, 2), (1, 4), (2, 1), (3, 6), (4, 1), (5, 6), (6, 3), (6, 5)]]
>>> [rounds_modulo(square, 7), member_modulo(square, 7, 1, 2, 3), member_modulo(square, 7, 1, 2, 10 ** 30)]
[(4, 2), 4, 1]

>>> from closechains.polygons import side, touched, touching
>>> [side((1, 1), (2, 1)), side((1, 1), (1, 0)), side((1, 0), (1, 0)), touched(square)]
[[3, -1, -2], [1, 0, -1], [0, 0, 1], [45, 0, -4, 0, -28, -4]]
>>> touching(square, (1, 1), (2, 1))
[2, 4, 1]

>>> from closechains.walks import ShortWalk, Walk
>>> walk = Walk(square, (1, 1), (2, 1))
>>> [walk.on(), walk.pair, walk.on(), walk.pair, walk.place, walk.undo(), walk.back(), walk.back()]
[None, ((2, 1), (1, 1)), None, ((1, 1), (1, 2)), 2, None, None, None]
>>> [walk.pair, walk.place, walk.story(), len(walk), walk == ShortWalk(square, (1, 1), (2, 1), 9)]
[((1, 2), (1, 1)), -1, ['on', 'back', 'back'], 3, False]

>>> from closechains.readings import read_point, read_relation
>>> from closechains.texts import show_point, show_relation
>>> [show_relation(square), read_relation("1 0 1 -5 0 1") == square]
['1 0 1 -5 0 1', True]
>>> [show_point(point) for point in [(-3, 2), (-42, 1), (1, 0)]]
['-3/2', '-42', 'endless']
>>> [read_point(text) for text in ["3/2", "0", "endless"]]
[(3, 2), (0, 1), (1, 0)]
"""


def defined_in(name, kind):
    tree = ast.parse((ROOT / "closechains" / f"{name}.py").read_text(encoding="ascii"))
    return {node.name: node for node in tree.body if isinstance(node, kind)}


class InterfaceTest(unittest.TestCase):
    def test_functions(self):
        for name, functions in FUNCTIONS.items():
            module = import_module(f"closechains.{name}")
            for function, wanted in functions.items():
                self.assertIn(function, defined_in(name, ast.FunctionDef))
                self.assertEqual(self.arguments(getattr(module, function)), wanted)

    def test_classes(self):
        for name, classes in CLASSES.items():
            module = import_module(f"closechains.{name}")
            for kind, wanted in classes.items():
                self.assertIn(kind, defined_in(name, ast.ClassDef))
                self.assertEqual(self.arguments(getattr(module, kind)), wanted)

    def arguments(self, called):
        told = inspect.signature(called).parameters.values()
        for parameter in told:
            self.assertEqual(parameter.kind, parameter.POSITIONAL_OR_KEYWORD)
            self.assertIs(parameter.default, parameter.empty)
        return [parameter.name for parameter in told]

    def test_properties_and_methods_of_the_classes_themselves(self):
        for (name, kind), wanted in PROPERTIES.items():
            for told in wanted:
                self.assertIsInstance(self.own(name, kind)[told], property)
        for (name, kind), wanted in METHODS.items():
            for told in wanted:
                parameters = list(inspect.signature(self.own(name, kind)[told]).parameters)
                self.assertEqual(parameters, ["self", "other"] if told == "__eq__" else ["self"])

    def own(self, name, kind):
        return vars(getattr(import_module(f"closechains.{name}"), kind))

    def test_examples_of_the_document(self):
        self.check_examples(EXAMPLES, 36)

    def test_examples_of_the_readme(self):
        self.check_examples((ROOT / "README.md").read_text(encoding="ascii"), 45)

    def check_examples(self, text, least):
        examples = doctest.DocTestParser().get_doctest(text, {}, "examples", None, 0)
        said = []
        result = doctest.DocTestRunner(verbose=False).run(examples, out=said.append)
        self.assertEqual(result.failed, 0, "".join(said))
        self.assertGreaterEqual(result.attempted, least)

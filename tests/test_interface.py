"""The interface: where each name stands, its methods in its own body, its arguments."""

import importlib
import inspect
import unittest

from kindgrove import both, counted, grids, kinds, ranges, reach, rests, trees, works, yards
from kindgrove.kinds import Kind, Measured

OF_KIND = {
    "own": "(self, key)", "join": "(self, one, other)", "consistent": "(self, label, question)",
    "matches": "(self, key, question)", "penalty": "(self, label, key)", "sides": "(self, labels)",
}
OF_MEASURED = {"distance": "(self, key, point)", "bound": "(self, label, point)"}
OF_BOTH = {**OF_KIND, **OF_MEASURED}

# Each class with its bases and its methods, each of which stands in the body of the class itself.
CLASSES = {
    trees.Tree: ((object,), {
        "__init__": "(self, kind, *, most=4)", "put": "(self, key)", "drop": "(self, number)", "tighten": "(self)",
        "key_of": "(self, number)", "numbers": "(self)", "shape": "(self)", "view": "(self)", "copy": "(self)",
        "search": "(self, question, rule=None)", "opened": "(self, question, rule=None)",
        "lost": "(self, question, rule=None)", "account": "(self, question)", "is_account": "(self, question, thing)",
        "__contains__": "(self, x)", "__len__": "(self)", "__bool__": "(self)",
    }),
    grids.Grid: ((object,), {
        "__init__": "(self, default=False)", "__getitem__": "(self, at)", "__setitem__": "(self, at, worth)",
        "__call__": "(self, one, other)", "__contains__": "(self, x)", "__len__": "(self)", "__bool__": "(self)",
        "__eq__": "(self, other)", "__and__": "(self, other)", "__or__": "(self, other)", "__invert__": "(self)",
        "__ior__": "(self, other)", "places": "(self)", "under": "(self, other)",
    }),
    kinds.Kind: ((object,), OF_KIND),
    kinds.Measured: ((object,), OF_MEASURED),
    kinds.Calls: ((Kind, Measured), {
        "__init__": "(self, *, own, join, consistent, matches, penalty=None, sides=None, distance=None, bound=None)",
        **OF_BOTH,
    }),
    counted.Counted: ((object,), {"__init__": "(self, function, arguments=2)", "clear": "(self)"}),
    ranges.Ranges: ((Kind, Measured), OF_BOTH),
    ranges.Boxes: ((Kind, Measured), {"__init__": "(self, dimensions=2)", **OF_BOTH}),
    rests.Rests: ((Kind,), OF_KIND),
    rests.Stems: ((Kind,), OF_KIND),
    rests.Signs: ((Kind,), {"__init__": "(self, width=8)", **OF_KIND}),
    both.Both: ((Kind, Measured), {"__init__": "(self, one, other)", **OF_BOTH}),
    both.Coarse: ((Kind, Measured), {"__init__": "(self, kind, squeeze)", **OF_BOTH}),
    reach.Reach: ((object,), {
        "__init__": "(self, kind, keys=(), *, most=200)", "add": "(self, key)", "given": "(self)", "labels": "(self)",
        "pairs": "(self)", "least": "(self, label)", "least_with": "(self, label, key)",
    }),
    works.Put: ((object,), {"step": "(self)"}),
    works.Search: ((object,), {"step": "(self)"}),
    yards.Yard: ((object,), {
        "__init__": "(self, kind, *, most=4, linked=True)", "put": "(self, key)", "seek": "(self, question)",
        "view": "(self)", "find": "(self, question)", "run": "(self, work)", "key_of": "(self, number)",
    }),
}
PROPERTIES = {trees.Tree: ["height"], counted.Counted: ["calls"], ranges.Boxes: ["dimensions"],
              rests.Signs: ["width"], both.Both: ["one", "other"],
              works.Put: ["row_number", "row_key", "is_begun", "is_done"],
              works.Search: ["question", "told", "is_begun", "is_done"],
              yards.Yard: ["counter", "height", "widest", "linked"]}
FUNCTIONS = {
    "values": {"is_plain": "(thing)"},
    "recipes": {
        "value": "(kind, recipe)", "rows": "(recipe)", "key_at": "(recipe, way)", "shortest": "(reach, label)",
        "shortest_with": "(reach, label, key)", "shape_of": "(recipe)",
    },
    "verdicts": {
        "is_exact": "(kind, keys, questions, rule=None)", "miss": "(kind, keys, questions)",
        "is_miss": "(kind, keys, questions, thing)", "is_table": "(kind, keys, questions, thing)",
        "sharpest": "(kind, keys, questions)", "mended": "(kind, keys, questions)", "lowest": "(kind, keys, questions)",
    },
    "compared": {
        "classes": "(kind, keys, questions)", "parting": "(kind, keys, questions, one, other)",
        "is_parting": "(kind, keys, questions, one, other, thing)", "merged": "(kind, keys, questions)",
        "parted": "(one, other, keys, questions)", "opens_more": "(one, other, keys, questions)",
    },
    "nearest": {
        "within": "(tree, point, limit, *, bound=None)", "nearest": "(tree, point, many, *, bound=None)",
        "nodes_for": "(tree, point, many, *, bound=None)", "bound_miss": "(kind, keys, points)",
        "is_bound_miss": "(kind, keys, points, thing)", "tightest": "(kind, keys, points)",
    },
    "weavings": {
        "play": "(kind, keys, works, order, *, most=4, linked=True)",
        "weavings": "(kind, keys, works, *, most=4, linked=True, limit=2000)",
        "first_miss": "(kind, keys, works, *, most=4, linked=True, limit=2000)",
        "is_miss_weaving": "(kind, keys, works, thing, *, most=4, linked=True)",
    },
}
PLACES = {
    "trees": ["Tree"], "grids": ["Grid"], "kinds": ["Kind", "Measured", "Calls"], "counted": ["Counted"],
    "ranges": ["Ranges", "Boxes"], "rests": ["Rests", "Stems", "Signs"], "both": ["Both", "Coarse"],
    "reach": ["Reach"], "errors": ["GroveError"], "works": ["Put", "Search"], "yards": ["Yard"],
}


class InterfaceTest(unittest.TestCase):

    def test_each_name_is_defined_in_its_file(self):
        for place, names in PLACES.items():
            module = importlib.import_module(f"kindgrove.{place}")
            for name in names:
                self.assertEqual(getattr(module, name).__module__, f"kindgrove.{place}")

    def test_functions_and_their_arguments(self):
        for place, functions in FUNCTIONS.items():
            module = importlib.import_module(f"kindgrove.{place}")
            for name, told in functions.items():
                with self.subTest(place=place, name=name):
                    self.assertTrue(inspect.isfunction(getattr(module, name)))
                    self.assertEqual(getattr(module, name).__module__, f"kindgrove.{place}")
                    self.assertEqual(str(inspect.signature(getattr(module, name))), told)

    def test_bases(self):
        for holder, (bases, _) in CLASSES.items():
            self.assertEqual(holder.__bases__, bases)

    def test_methods_and_their_arguments(self):
        for holder, (_, methods) in CLASSES.items():
            for name, told in methods.items():
                with self.subTest(holder=holder, name=name):
                    self.assertEqual(str(inspect.signature(vars(holder)[name])), told)

    def test_properties(self):
        for holder, names in PROPERTIES.items():
            for name in names:
                self.assertIsInstance(vars(holder)[name], property)
                self.assertIsNone(vars(holder)[name].fset)

    def test_class_methods_static_methods_and_generators(self):
        self.assertIsInstance(vars(trees.Tree)["packed"], classmethod)
        self.assertEqual(str(inspect.signature(trees.Tree.packed)), "(kind, shape, *, most=4)")
        self.assertIsInstance(vars(ranges.Boxes)["around"], staticmethod)
        self.assertEqual(str(inspect.signature(ranges.Boxes.around)), "(points)")
        self.assertTrue(inspect.isgeneratorfunction(trees.Tree.search))

    def test_counted_is_called_with_one_or_two(self):
        self.assertIn("__call__", vars(counted.Counted))
        self.assertEqual(list(inspect.signature(counted.Counted.__call__).parameters), ["self", "one", "other"])


if __name__ == "__main__":
    unittest.main()

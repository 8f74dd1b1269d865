"""The examples of the document, word by word, and those that stand in the midst of its points."""

import unittest

EXAMPLES = '''
>>> from kindgrove.ranges import Ranges
>>> from kindgrove.trees import Tree
>>> tree = Tree.packed(Ranges(), [[3, 8], [20, 21, 25]])
>>> tree.view()
('node', (((3, 8), ('leaf', (0, 1))), ((20, 25), ('leaf', (2, 3, 4)))))
>>> list(tree.search((5, 20)))
[1, 2]
>>> tree.opened((0, 9))
[(), (0,)]
>>> tree.account((0, 9))
([0, 1], [((1,), (20, 25))])
>>> number = tree.put(10)
>>> [number, tree.view()[1][0]]
[5, ((3, 10), ('leaf', (0, 1, 5)))]
>>> tree.drop(5)
>>> tree.tighten()
1
>>> from kindgrove.nearest import nearest, within
>>> nearest(tree, 12, 2)
[(4, 1), (8, 2)]
>>> within(tree, 12, 9)
[0, 1, 2, 3]
>>> Tree.packed(Ranges(), [[1], 2])
raises BadShape(path=(1,))
>>> from kindgrove.reach import Reach
>>> reach = Reach(Ranges(), [1, 5])
>>> reach.pairs()
[((1, 1), 1), ((1, 5), 1), ((1, 5), 5), ((5, 5), 5)]
>>> [reach.least((1, 5)), reach.least_with((5, 5), 5)]
[2, 1]
>>> reach.least((9, 9))
raises NoLabel(label=(9, 9))
>>> from kindgrove.grids import Grid
>>> from kindgrove.kinds import Calls
>>> from kindgrove.rests import Stems
>>> stems = Stems()
>>> kind = Calls(own=stems.own, join=Grid("zz"), consistent=stems.consistent, matches=stems.matches)
>>> from kindgrove.verdicts import is_exact, lowest, mended, miss
>>> [is_exact(kind, ["ab"], ["a"]), is_exact(kind, ["ab"], ["", "b"])]
[False, True]
>>> from kindgrove.recipes import rows, shape_of
>>> recipe, way, question = miss(kind, ["ab"], ["a"])
>>> [rows(recipe), question, lowest(kind, ["ab"], ["a"])]
[2, 'a', 2]
>>> shape_of(recipe)
[[['ab'], ['ab']]]
>>> lossy = Tree.packed(kind, shape_of(recipe))
>>> [list(lossy.search("a")), lossy.lost("a")]
[[], [0, 1]]
>>> mended(kind, ["ab"], ["a"]).places()
[('ab', 'a'), ('zz', 'a')]
>>> from kindgrove.compared import classes, parting
>>> classes(kind, ["ab"], ["a", "b"])
[['ab'], ['zz']]
>>> parting(kind, ["ab"], ["a"], "ab", "zz")
([], 'a')
>>> from kindgrove.weavings import first_miss, play
>>> works = [("search", (0, 9)), ("put", 4)]
>>> play(Ranges(), [1, 2, 3], works, (0, 1, 1, 0, 0), most=2, linked=False)
((0, 1), None)
>>> play(Ranges(), [1, 2, 3], works, (0, 1, 1, 0, 0, 0), most=2)
((0, 1, 2, 3), None)
>>> first_miss(Ranges(), [1, 2, 3], works, most=2) is None
True
>>> from kindgrove.ranges import Boxes
>>> Boxes.around([(1, 2), (3, 0)])
((1, 3), (0, 2))
>>> from kindgrove.rests import Rests, Signs
>>> [Rests().join((0, 7), (0, 19)), Signs().own((1, 9, 2))]
[(12, 7), 6]
>>> Grid()(True, 0)
raises BadValue(value=True)
'''

# The examples in the midst of Part 3, written as calls.
PART_3 = '''
>>> from kindgrove.ranges import Ranges
>>> from kindgrove.rests import Rests, Signs
>>> Ranges().join((3, 9), (5, 12))
(3, 12)
>>> Ranges().penalty((3, 9), 12)
3
>>> Ranges().sides([(5, 5), (1, 2), (4, 9)])
[1, 0, 1]
>>> Rests().join((0, 7), (0, 19))
(12, 7)
>>> Rests().consistent((12, 7), (8, 3))
True
>>> Rests().consistent((12, 7), (8, 2))
False
>>> Signs().own((1, 9, 2))
6
'''

# The example behind [11.12], written as calls, and the counted leaves of [4.3].
PARTS_4_AND_11 = '''
>>> from kindgrove.kinds import Calls
>>> from kindgrove.reach import Reach
>>> join = lambda one, other: one + 1 if one == other < 40 else 0
>>> doubled = Reach(Calls(own=lambda key: 0, join=join, consistent=None, matches=None), [0])
>>> [doubled.least(label) == 2 ** label for label in (0, 1, 40)]
[True, True, True]
>>> from kindgrove.ranges import Ranges
>>> from kindgrove.weavings import first_miss, is_miss_weaving
>>> works = [("search", (0, 9)), ("put", 4)]
>>> len(first_miss(Ranges(), [1, 2, 3], works, most=2, linked=False))
5
>>> is_miss_weaving(Ranges(), [1, 2, 3], works, (0, 1, 1, 0, 0), most=2, linked=False)
True
>>> is_miss_weaving(Ranges(), [1, 2, 3], works, (0, 1, 1, 0, 0), most=2)
False
'''


def entries_of(text):
    """Pairs of a line to run and the line that it has to show, None where it has to show nothing."""
    lines = text.strip().splitlines()
    for at, line in enumerate(lines):
        if line.startswith(">>> "):
            shown = lines[at + 1] if at + 1 < len(lines) else ">>>"
            yield line[4:], None if shown.startswith(">>>") else shown


def shown_by(line, names):
    """What a line shows: the repr of its value, the error that it raises, or None."""
    try:
        code = compile(line, "example", "eval")
    except SyntaxError:
        exec(line, names)
        return None
    try:
        found = eval(code, names)
    except ValueError as error:
        told = ", ".join(f"{name}={thing!r}" for name, thing in vars(error).items())
        return f"raises {type(error).__name__}({told})"
    return None if found is None else repr(found)


class ExamplesTest(unittest.TestCase):

    def run_all(self, text):
        names = {}
        for line, wanted in entries_of(text):
            with self.subTest(line):
                self.assertEqual(shown_by(line, names), wanted)
        return names

    def test_examples(self):
        self.run_all(EXAMPLES)

    def test_part_3(self):
        self.run_all(PART_3)

    def test_parts_4_and_11(self):
        self.run_all(PARTS_4_AND_11)

    def test_all_of_the_examples_are_there(self):
        """As many lines as the document has: none is left out by the way in which they are read."""
        self.assertEqual(len(list(entries_of(EXAMPLES))), EXAMPLES.count(">>> "))
        self.assertEqual(EXAMPLES.count("raises "), 3)


if __name__ == "__main__":
    unittest.main()

"""The examples of the document, word by word: those of errors, values, grids, kinds, trees and reaches."""

import unittest

from kindgrove.trees import Tree

EXAMPLES = '''
>>> from kindgrove.ranges import Ranges
>>> from kindgrove.trees import Tree
>>> tree = Tree.packed(Ranges(), [[3, 8], [20, 21, 25]])
>>> tree.view()
('node', (((3, 8), ('leaf', (0, 1))), ((20, 25), ('leaf', (2, 3, 4)))))
>>> list(tree.search((5, 20)))
[1, 2]
>>> tree.opened((0, 9))
[(), (0,)]
>>> tree.account((0, 9))
([0, 1], [((1,), (20, 25))])
>>> number = tree.put(10)
>>> [number, tree.view()[1][0]]
[5, ((3, 10), ('leaf', (0, 1, 5)))]
>>> tree.drop(5)
>>> tree.tighten()
1
>>> Tree.packed(Ranges(), [[1], 2])
raises BadShape(path=(1,))
>>> from kindgrove.reach import Reach
>>> reach = Reach(Ranges(), [1, 5])
>>> reach.pairs()
[((1, 1), 1), ((1, 5), 1), ((1, 5), 5), ((5, 5), 5)]
>>> [reach.least((1, 5)), reach.least_with((5, 5), 5)]
[2, 1]
>>> reach.least((9, 9))
raises NoLabel(label=(9, 9))
>>> from kindgrove.grids import Grid
>>> from kindgrove.kinds import Calls
>>> from kindgrove.rests import Stems
>>> stems = Stems()
>>> kind = Calls(own=stems.own, join=Grid("zz"), consistent=stems.consistent, matches=stems.matches)
>>> from kindgrove.ranges import Boxes
>>> Boxes.around([(1, 2), (3, 0)])
((1, 3), (0, 2))
>>> from kindgrove.rests import Rests, Signs
>>> [Rests().join((0, 7), (0, 19)), Signs().own((1, 9, 2))]
[(12, 7), 6]
>>> Grid()(True, 0)
raises BadValue(value=True)
'''

# The examples in the midst of Part 3, written as calls.
PART_3 = '''
>>> from kindgrove.ranges import Ranges
>>> from kindgrove.rests import Rests, Signs
>>> Ranges().join((3, 9), (5, 12))
(3, 12)
>>> Ranges().penalty((3, 9), 12)
3
>>> Ranges().sides([(5, 5), (1, 2), (4, 9)])
[1, 0, 1]
>>> Rests().join((0, 7), (0, 19))
(12, 7)
>>> Rests().consistent((12, 7), (8, 3))
True
>>> Rests().consistent((12, 7), (8, 2))
False
>>> Signs().own((1, 9, 2))
6
'''


def entries_of(text):
    """Pairs of a line to run and the line that it has to show, None where it has to show nothing."""
    lines = text.strip().splitlines()
    for at, line in enumerate(lines):
        if line.startswith(">>> "):
            shown = lines[at + 1] if at + 1 < len(lines) else ">>>"
            yield line[4:], None if shown.startswith(">>>") else shown


def shown_by(line, names):
    """What a line shows: the repr of its value, the error that it raises, or None."""
    try:
        code = compile(line, "example", "eval")
    except SyntaxError:
        exec(line, names)
        return None
    try:
        found = eval(code, names)
    except ValueError as error:
        told = ", ".join(f"{name}={thing!r}" for name, thing in vars(error).items())
        return f"raises {type(error).__name__}({told})"
    return None if found is None else repr(found)


class ExamplesTest(unittest.TestCase):

    def run_all(self, text):
        names = {}
        for line, wanted in entries_of(text):
            with self.subTest(line):
                self.assertEqual(shown_by(line, names), wanted)
        return names

    def test_examples(self):
        self.run_all(EXAMPLES)

    def test_part_3(self):
        self.run_all(PART_3)

    def test_lossy(self):
        kind = self.run_all(EXAMPLES)["kind"]
        # The shape that the document reckons by shape_of.
        lossy = Tree.packed(kind, [[["ab"], ["ab"]]])
        self.assertEqual([list(lossy.search("a")), lossy.lost("a")], [[], [0, 1]])


if __name__ == "__main__":
    unittest.main()

"""Parts 7 and 8 for the ready kinds and the kinds made of them: runs of deeds beside the model, and no row lost."""

import test_model
from test_reach import ready_cases

from kindgrove.both import Both, Coarse
from kindgrove.ranges import Boxes, Ranges
from kindgrove.rests import Rests, Signs, Stems
from kindgrove.trees import Tree


def cases():
    """Kinds, keys, questions."""
    yield Ranges(), [5, -3, 0, 8, 10 ** 50, 5], [(0, 5), (6, 7), (9, 2), (-(10 ** 60), 10 ** 60)]
    yield Boxes(1), [((at, at + at % 3),) for at in range(7)], [((2, 3),), ((-9, 9),), ((7, 8),), ((20, 30),)]
    yield (Boxes(3), [((at, at), (-at, at), (3, 3 + at)) for at in range(7)],
           [((0, 2), (0, 0), (5, 9)), ((0, 9), (-9, 9), (0, 20)), ((5, 5), (9, 9), (4, 4))])
    yield Rests(), [0, 6, 12, -9, 7, 100], [(2, 0), (3, 1), (100, 0), (5, 2), (1, 0)]
    yield Stems(), ["", "a", "ab", "abc", "b", "ba", "B"], ["", "a", "ab", "abcd", "c", "b"]
    yield Signs(4), [(), (1,), (2, 5), (4, 8, 9), (-1, 1)], [(), (1,), (5,), (9, 4), (13,)]
    yield (Both(Ranges(), Stems()), [(at % 4, "ab"[:at % 3]) for at in range(12)],
           [((0, 2), "a"), ((3, 3), ""), ((0, 9), "ab"), ((5, 1), "")])
    yield (Both(Rests(), Signs(3)), [(at * 5, (at, at + 1)) for at in range(6)], [((2, 0), ()), ((10, 5), (2,))])
    yield (Coarse(Ranges(), lambda label: (label[0] // 3 * 3, label[1] + 1)), list(range(8)),
           [(0, 3), (7, 9), (4, 4), (5, 2)])
    yield Coarse(Signs(4), lambda label: label | 9), [(at, at * at) for at in range(6)], [(), (1,), (3, 9)]


class ReadyTreeTest(test_model.Runs):

    def check_label(self, label, keys):
        """What the labels of these kinds hold is seen by what the searches find."""

    def test_deeds(self):
        for kind, keys, questions in cases():
            for most in (2, 3, 4, 7):
                with self.subTest(kind=kind, most=most):
                    self.keys = keys
                    self.run_deeds(kind, most, most, questions)

    def test_packed_trees_of_all_keys(self):
        for kind, keys in ready_cases():
            tree = Tree.packed(kind, [[[key] for key in keys[:4]], [keys[4:] or keys]], most=50)
            self.assertEqual(tree.height, 3)
            self.assertEqual([tree.key_of(number) for number in tree.numbers()], keys[:4] + (keys[4:] or keys))
            self.assertEqual(tree.tighten(), 0)
            joined = kind.own(keys[0])
            for key in keys[1:4]:
                joined = kind.join(joined, kind.own(key))
            self.assertEqual(tree.view()[1][0][0], joined)

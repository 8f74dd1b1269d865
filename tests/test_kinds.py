"""[3.1] The base class of kinds."""

import unittest

from kindgrove.errors import NotGiven
from kindgrove.kinds import Kind


class KindTest(unittest.TestCase):

    def test_methods_that_are_not_given(self):
        for name in ("own", "join", "consistent", "matches"):
            told = (1,) if name == "own" else (1, 2)
            with self.subTest(name), self.assertRaises(NotGiven) as caught:
                getattr(Kind(), name)(*told)
            self.assertEqual(caught.exception.name, name)

    def test_arguments_by_name(self):
        for name, told in (("own", ["key"]), ("join", ["one", "other"]), ("consistent", ["label", "question"]),
                           ("matches", ["key", "question"])):
            with self.subTest(name), self.assertRaises(NotGiven):
                getattr(Kind(), name)(**{argument: 0 for argument in told})
        self.assertEqual(Kind().penalty(label=1, key=2), 0)
        self.assertEqual(Kind().sides(labels=[3, 4]), [0, 1])

    def test_penalty(self):
        self.assertEqual(Kind().penalty("label", 7), 0)

    def test_sides(self):
        wanted = [[], [1], [0, 1], [0, 1, 1], [0, 0, 1, 1], [0, 0, 1, 1, 1]]
        self.assertEqual([Kind().sides(["x"] * many) for many in range(6)], wanted)

    def test_sides_changes_nothing(self):
        labels = [3, 1, 2]
        Kind().sides(labels)
        self.assertEqual(labels, [3, 1, 2])


if __name__ == "__main__":
    unittest.main()

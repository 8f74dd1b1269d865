"""[6.6], [9.5] The errors of verdicts and of compared kinds, in their order."""

from checks import Checks
from sample_kinds import Noting, Replacing, odd_things

from kindgrove.compared import classes, is_parting, merged, opens_more, parted, parting
from kindgrove.errors import BadValue, NoLabel, TooMany
from kindgrove.kinds import Calls
from kindgrove.ranges import Ranges
from kindgrove.values import is_plain
from kindgrove.verdicts import is_exact, is_miss, is_table, lowest, mended, miss, sharpest

ENDLESS = Calls(own=lambda key: 0, join=lambda one, other: max(one, other) + 1, consistent=None, matches=None)
OWN_WRONG = Replacing(Ranges(), {("own", (5,)): [5]})
JOIN_WRONG = Replacing(Ranges(), {("join", ((1, 1), (5, 5))): True})
REACHED = (1, 1)


def verdicts():
    """All functions of Part 6 that reach labels, as calls with kind, keys and questions."""
    by_rule = [lambda kind, keys, questions: is_exact(kind, keys, questions, lambda label, question: True)]
    return [is_exact, miss, sharpest, mended, lowest, *by_rule]


def comparisons():
    """All functions of Part 9, as calls with kind, keys and questions."""
    return [
        classes, merged,
        lambda kind, keys, questions: parting(kind, keys, questions, REACHED, REACHED),
        lambda kind, keys, questions: is_parting(kind, keys, questions, REACHED, REACHED, None),
        lambda kind, keys, questions: parted(kind, kind, keys, questions),
        lambda kind, keys, questions: opens_more(kind, kind, keys, questions),
        lambda kind, keys, questions: parted(Ranges(), kind, keys, questions),
        lambda kind, keys, questions: opens_more(Ranges(), kind, keys, questions),
    ]


def claims():
    """The functions of Part 6 that judge any object."""
    return [lambda kind, keys, questions: is_miss(kind, keys, questions, None),
            lambda kind, keys, questions: is_table(kind, keys, questions, None)]


class ErrorsTest(Checks):

    def all_fail(self, asks, error, kind, keys, questions, **told):
        given, asked = list(keys), list(questions)
        for ask in asks:
            self.fails(error, lambda: ask(kind, given, asked), **told)
            self.fails(error, lambda: ask(kind, tuple(given), tuple(asked)), **told)
        self.assertTrue(all(one is other for one, other in zip(given, keys)) and len(given) == len(keys))

    def test_keys_and_questions_that_are_not_plain(self):
        asks = [*verdicts(), *comparisons(), *claims()]
        for wrong in odd_things():
            if not is_plain(wrong):
                kind = Noting(Ranges())
                self.all_fail(asks[:2] + asks[6:10] + claims(), BadValue, kind, [1, wrong], [(1, 1)], value=wrong)
                self.assertEqual(kind.calls, [])
                self.all_fail(asks, BadValue, Ranges(), [wrong], [(1, 1)], value=wrong)
                self.all_fail(asks, BadValue, Ranges(), [1], [wrong], value=wrong)
                self.all_fail(asks, BadValue, Ranges(), [], [(1, 1), wrong], value=wrong)

    def test_first_key_then_first_question(self):
        asks = [*verdicts(), *comparisons(), *claims()]
        self.all_fail(asks, BadValue, Ranges(), [1, [2], [3]], [[4], (1, 1)], value=[2])
        self.all_fail(asks, BadValue, Ranges(), [1, 2], [(1, 1), [4], [5]], value=[4])

    def test_keys_and_questions_ahead_of_labels(self):
        asks = [*verdicts(), *comparisons(), *claims()]
        for kind in (OWN_WRONG, JOIN_WRONG, ENDLESS):
            self.all_fail(asks, BadValue, kind, [1, 5, [3]], [(1, 1)], value=[3])
            self.all_fail(asks, BadValue, kind, [1, 5], [(1, 1), [3]], value=[3])

    def test_labels_that_are_not_plain(self):
        asks = [*verdicts(), *comparisons()]
        self.all_fail(asks, BadValue, OWN_WRONG, [1, 5], [(1, 1)], value=[5])
        self.all_fail(asks, BadValue, JOIN_WRONG, [1, 5], [(1, 1)], value=True)

    def test_too_many_labels(self):
        self.all_fail([*verdicts(), *comparisons()], TooMany, ENDLESS, [1], [(1, 1)])
        self.all_fail([*verdicts(), *comparisons()], TooMany, Ranges(), list(range(20)), [(1, 1)])
        for ask in verdicts():
            ask(Ranges(), list(range(19)), [(1, 1)])

    def test_claims_are_false_where_labels_are_wrong(self):
        for kind in (OWN_WRONG, JOIN_WRONG, ENDLESS):
            for ask in claims():
                self.assertIs(ask(kind, [1, 5], [(1, 1)]), False)
        recipe = (("own", 1), ("own", 5), ("join", 0, 1))
        for kind in (OWN_WRONG, JOIN_WRONG):
            self.assertIs(is_miss(kind, [1, 5], [(1, 1)], (recipe, (0,), (1, 1))), False)
            self.assertIs(is_table(kind, [1, 5], [(1, 1)], [((1, 1), 1), ((5, 5), 5)]), False)

    def test_first_kind_then_second_kind(self):
        for find in (parted, opens_more):
            self.fails(BadValue, lambda: find(OWN_WRONG, JOIN_WRONG, [1, 5], []), value=[5])
            self.fails(BadValue, lambda: find(JOIN_WRONG, OWN_WRONG, [1, 5], []), value=True)
            self.fails(TooMany, lambda: find(ENDLESS, OWN_WRONG, [1, 5], []))
            self.fails(BadValue, lambda: find(OWN_WRONG, ENDLESS, [1, 5], []), value=[5])
            self.fails(BadValue, lambda: find(Ranges(), OWN_WRONG, [1, 5], []), value=[5])
            self.fails(BadValue, lambda: find(ENDLESS, ENDLESS, [1, [5]], []), value=[5])
            self.fails(BadValue, lambda: find(ENDLESS, ENDLESS, [1], [[5]]), value=[5])

    def test_tuples_of_labels_behind_both_kinds(self):
        walkers = [Calls(own=lambda key: 1, join=lambda one, other, many=many: (one + other) % many, consistent=None,
                         matches=None) for many in (3, 101)]
        for find in (parted, opens_more):
            self.fails(TooMany, lambda: find(*walkers, ["a"], []))
            self.fails(BadValue, lambda: find(walkers[0], OWN_WRONG, [5], []), value=[5])

    def test_labels_that_are_not_reached_come_last(self):
        for ask in (lambda kind, keys, questions: parting(kind, keys, questions, "none", "none"),
                    lambda kind, keys, questions: is_parting(kind, keys, questions, "none", "none", None)):
            self.fails(BadValue, lambda: ask(OWN_WRONG, [1, 5], []), value=[5])
            self.fails(TooMany, lambda: ask(ENDLESS, [1, 5], []))
            self.fails(BadValue, lambda: ask(ENDLESS, [1, [5]], [[6]]), value=[5])
            self.fails(BadValue, lambda: ask(ENDLESS, [1], [[6]]), value=[6])
            self.fails(NoLabel, lambda: ask(Ranges(), [1, 5], []), label="none")

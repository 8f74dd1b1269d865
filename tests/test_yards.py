"""[11.1] to [11.9] Yards and works by hand: what they tell, what they ask, and their errors."""

from checks import Checks
from sample_kinds import Noting, Replacing, Texts, odd_things

from kindgrove.errors import BadCount, BadValue, Finished, NoRow, NotGiven
from kindgrove.kinds import Kind
from kindgrove.ranges import Ranges
from kindgrove.values import is_plain
from kindgrove.works import Put, Search
from kindgrove.yards import Yard


def filled(kind, keys, most=2, linked=True):
    yard = Yard(kind, most=most, linked=linked)
    for key in keys:
        yard.run(yard.put(key))
    return yard


def leaf(*numbers, mark=0, is_open=False, is_posted=True):
    return (numbers, mark, is_open, is_posted)


def snapshot(yard, *works):
    told = [(work.is_begun, work.is_done, work.told if isinstance(work, Search) else None) for work in works]
    return yard.view(), yard.counter, yard.height, told


class YardTest(Checks):

    def test_empty(self):
        for yard in (Yard(Ranges()), Yard(kind=Ranges(), most=4, linked=True)):
            self.assertEqual(yard.view(), [[leaf()]])
            self.assertEqual((yard.counter, yard.height, yard.widest, yard.linked), (0, 1, 4, True))
            self.assertEqual(yard.find((0, 9)), [])
        yard = Yard(Ranges(), linked=False, most=50)
        self.assertEqual((yard.widest, yard.linked), (50, False))

    def test_widths(self):
        for most in [*odd_things(), 1, 0, -1, 51, 10 ** 30, True, False, 4.0, "4"]:
            self.fails(BadCount, lambda: Yard(Ranges(), most=most), count=most)
            self.fails(BadCount, lambda: Yard(Ranges(), linked=False, most=most), count=most)
        for most in (2, 3, 49, 50):
            yard = filled(Ranges(), range(most), most)
            self.assertEqual((yard.height, yard.widest), (1, most))
            yard.run(yard.put(most))
            half = (most + 1) // 2
            numbers = tuple(range(most + 1))
            self.assertEqual(yard.view()[0], [leaf(*numbers[:half], mark=1), leaf(*numbers[half:])])

    def test_by_name_only(self):
        with self.assertRaises(TypeError):
            Yard(Ranges(), 4)

    def test_properties_cannot_be_set(self):
        yard = Yard(Ranges())
        put, search = yard.put(1), yard.seek((0, 9))
        for thing, name in [(yard, "counter"), (yard, "height"), (yard, "widest"), (yard, "linked"), (put, "is_done"),
                            (put, "row_key"), (put, "row_number"), (search, "told"), (search, "question")]:
            with self.assertRaises(AttributeError):
                setattr(thing, name, 1)

    def test_kind_is_not_asked_by_what_is_told(self):
        kind = Noting(Ranges())
        yard = filled(kind, range(9))
        kind.calls.clear()
        snapshot(yard, yard.put(1), yard.seek((0, 9)))
        self.assertEqual((yard.key_of(3), kind.calls), (3, []))

    def test_lists_are_new(self):
        yard = filled(Ranges(), range(9))
        for _ in range(2):
            view = yard.view()
            self.assertEqual(view, yard.view())
            view[0].clear()
            view.clear()
            found = yard.find((0, 9))
            self.assertEqual(found, list(range(9)))
            found.clear()

    def test_yards_go_their_own_way(self):
        kind = Ranges()
        one, other = filled(kind, [1, 2]), filled(kind, [3])
        one.run(one.put(7))
        self.assertEqual((other.view(), other.put(4).row_number), ([[leaf(0)]], 1))


class WorksTest(Checks):

    def test_a_put_gets_its_number_when_it_is_made(self):
        yard = Yard(Ranges())
        puts = [yard.put(key) for key in (7, 3)] + [yard.put(key=7)]
        self.assertEqual([(put.row_number, put.row_key) for put in puts], [(0, 7), (1, 3), (2, 7)])
        self.assertTrue(all(isinstance(put, Put) for put in puts))
        self.assertEqual(snapshot(yard, *puts), ([[leaf()]], 0, 1, [(False, False, None)] * 3))
        yard.seek((1, 2))
        self.assertEqual(yard.put(1).row_number, 3)
        yard.run(puts[2])
        yard.run(puts[0])
        self.assertEqual(yard.view(), [[leaf(2, 0)]])
        self.assertEqual(yard.put(1).row_number, 4)

    def test_a_search(self):
        yard = Yard(Ranges())
        for search in (yard.seek((1, 2)), yard.seek(question=(1, 2))):
            self.assertIsInstance(search, Search)
            self.assertEqual((search.question, search.told), ((1, 2), []))
            self.assertEqual((search.is_begun, search.is_done), (False, False))
            self.assertIs(search.step(), True)
            self.assertEqual((search.told, search.is_begun, search.is_done), ([], True, True))

    def test_told_is_a_new_list_each_time(self):
        yard = filled(Ranges(), [1, 2])
        search = yard.seek((0, 9))
        search.step()
        for _ in range(2):
            told = search.told
            self.assertEqual(told, [0, 1])
            told.clear()

    def test_step_tells_whether_it_is_done(self):
        yard = filled(Ranges(), [1, 2, 3])
        put, search = yard.put(4), yard.seek((0, 9))
        self.assertEqual([put.step(), put.step(), put.step()], [False, False, True])
        self.assertEqual([search.step() for _ in range(6)], [False] * 5 + [True])
        self.assertTrue(put.is_done and search.is_done)

    def test_finished(self):
        yard = filled(Ranges(), [1, 2, 3])
        for work in (yard.put(4), yard.seek((0, 9)), yard.seek((20, 30))):
            yard.run(work)
            before = snapshot(yard, work)
            for _ in range(2):
                self.fails(Finished, work.step)
                self.assertEqual(snapshot(yard, work), before)

    def test_values_that_are_not_plain(self):
        yard = filled(Ranges(), [1, 2, 3])
        before = snapshot(yard)
        for wrong in odd_things():
            if not is_plain(wrong):
                self.fails(BadValue, lambda: yard.put(wrong), value=wrong)
                self.fails(BadValue, lambda: yard.seek(wrong), value=wrong)
                self.fails(BadValue, lambda: yard.find(wrong), value=wrong)
        self.assertEqual((snapshot(yard), yard.put(5).row_number), (before, 3))

    def test_key_of(self):
        yard = filled(Ranges(), [5, 6])
        yard.put(7)
        self.assertEqual([yard.key_of(0), yard.key_of(number=1), yard.key_of(2)], [5, 6, 7])
        for number in [*odd_things(), 3, -1, True, False, 0.0, "0", (0,)]:
            self.fails(NoRow, lambda: yard.key_of(number), number=number)
        self.fails(NoRow, lambda: Yard(Ranges()).key_of(0), number=0)

    def test_run(self):
        yard = filled(Ranges(), [1, 2, 3])
        put, search = yard.put(4), yard.seek((0, 9))
        put.step()
        self.assertEqual([yard.run(put), yard.run(work=put), put.is_done], [2, 0, True])
        self.assertEqual([yard.run(search), yard.run(search), search.told], [6, 0, [0, 1, 2, 3]])
        self.assertEqual([yard.run(Yard(Ranges()).put(1)), yard.run(yard.seek((7, 6)))], [1, 1])

    def test_find(self):
        yard = filled(Ranges(), [5, 1, 9, 3, 5])
        self.assertEqual([yard.find((3, 5)), yard.find(question=(5, 5)), yard.find((10, 20))], [[0, 3, 4], [0, 4], []])
        self.assertEqual(sorted(yard.find((0, 9))), [0, 1, 2, 3, 4])
        before = snapshot(yard)
        yard.find((0, 9))
        self.assertEqual((snapshot(yard), yard.put(1).row_number), (before, 5))

    def test_find_while_works_are_in_the_middle(self):
        for linked, wanted in ((True, [0, 1, 2, 3]), (False, [0, 1])):
            yard = filled(Ranges(), [1, 2, 3], linked=linked)
            put = yard.put(4)
            put.step()
            put.step()
            self.assertEqual(yard.find((0, 9)), wanted)
            yard.run(put)
            self.assertEqual(yard.find((0, 9)), [0, 1, 2, 3])

    def test_steps_of_works_of_two_yards(self):
        one, other = filled(Ranges(), [1, 2, 3]), filled(Ranges(), [7])
        put = one.put(4)
        other.run(other.put(9))
        put.step()
        self.assertEqual((other.view(), one.run(put), one.find((0, 9))), ([[leaf(0, 1)]], 2, [0, 1, 2, 3]))


class StepsTest(Checks):

    def test_put_and_divide_the_root(self):
        yard = filled(Ranges(), [5, 1])
        put = yard.put(3)
        self.assertIs(put.step(), True)
        self.assertEqual(yard.view(), [[leaf(0, mark=1), leaf(1, 2)], [((((5, 5), 0), ((1, 3), 1)), 0, False, True)]])
        self.assertEqual((yard.counter, yard.height), (1, 2))

    def test_put_step_by_step(self):
        yard = filled(Texts(), [1, 2, 3], most=3)
        put = yard.put(4)
        self.assertIs(put.step(), True)
        self.assertEqual((yard.view(), yard.counter), ([[leaf(0, 1, mark=1), leaf(2, 3)],
                                                        [((("(1 2)", 0), ("(3 4)", 1)), 0, False, True)]], 1))

    def test_an_open_leaf_and_its_posting(self):
        yard = filled(Ranges(), [1, 2, 3])
        put = yard.put(4)
        self.assertIs(put.step(), False)
        self.assertIs(put.step(), False)
        self.assertEqual(yard.view(), [[leaf(0, mark=1), leaf(1, is_open=True), leaf(2, 3, is_posted=False)],
                                       [((((1, 1), 0), ((2, 3), 1)), 0, False, True)]])
        self.assertEqual(yard.counter, 1)
        self.assertIs(put.step(), True)
        # The root is divided before the left neighbour gets its mark.
        self.assertEqual(yard.view(), [
            [leaf(0, mark=1), leaf(1, mark=3), leaf(2, 3)],
            [((((1, 1), 0),), 2, False, True), ((((2, 2), 1), ((3, 4), 2)), 0, False, True)],
            [((((1, 1), 0), ((2, 4), 1)), 0, False, True)]])
        self.assertEqual((yard.counter, yard.height), (3, 3))

    def test_a_label_is_widened_level_by_level(self):
        yard = filled(Ranges(), [10, 20, 30, 40, 25])
        self.assertEqual(yard.height, 3)
        put = yard.put(99)
        before = yard.view()
        steps = []
        while not put.step():
            steps.append(yard.view())
        self.assertEqual(steps[0], before)
        self.assertGreater(len(steps), 3)
        self.assertEqual(yard.view()[-1][0][0][-1][0], (20, 99))

    def test_two_new_nodes_beside_each_other_posted_right_one_first(self):
        yard = filled(Ranges(), [1, 2], most=3)
        yard.run(yard.put(3))
        yard.run(yard.put(4))
        self.assertEqual(yard.view()[0], [leaf(0, 1, mark=1), leaf(2, 3)])
        first, second, third, fourth = [yard.put(key) for key in (5, 6, 7, 8)]
        for put in (first, second, third, fourth):
            put.step()
        first.step()
        self.assertEqual(yard.view()[0][1:], [leaf(2, 3, 4)])
        second.step()
        self.assertEqual(yard.view()[0][1:], [leaf(2, 3, is_open=True), leaf(4, 5, is_posted=False)])
        third.step()
        fourth.step()
        self.assertEqual(yard.view()[0][1:], [leaf(2, 3, is_open=True), leaf(6, 7, is_open=True, is_posted=False),
                                              leaf(4, 5, is_posted=False)])
        search = yard.seek((0, 9))
        self.assertIs(second.step(), True)
        # The head of the node with 4 and 5 is two to the left: its label speaks for both nodes from there.
        self.assertEqual(yard.view()[0][1:], [leaf(2, 3, is_open=True), leaf(6, 7, mark=2, is_posted=False),
                                              leaf(4, 5)])
        self.assertEqual(yard.view()[1][0][0], (((1, 2), 0), ((3, 8), 1), ((5, 6), 3)))
        self.assertEqual(yard.counter, 2)
        yard.run(search)
        self.assertEqual(sorted(search.told), list(range(8)))
        self.assertIs(first.step(), True)
        self.assertIs(fourth.step(), True)
        self.assertEqual(yard.view()[0][1:], [leaf(2, 3, mark=4), leaf(6, 7, mark=2), leaf(4, 5)])

    def test_two_new_nodes_beside_each_other_posted_left_one_first(self):
        yard = filled(Ranges(), [1, 2, 3, 4], most=3)
        puts = [yard.put(key) for key in (5, 6, 7, 8)]
        for put in puts + puts:
            put.step()
        self.assertIs(puts[3].step(), True)
        # The new node is open: its label speaks for the node that follows, too.
        self.assertEqual(yard.view()[1][0][0], (((1, 2), 0), ((3, 4), 1), ((5, 8), 2)))
        self.assertEqual(yard.view()[0][1:], [leaf(2, 3, mark=2), leaf(6, 7, is_open=True),
                                              leaf(4, 5, is_posted=False)])

    def test_a_widened_label_of_a_row_that_moved_on(self):
        """A put goes up while its row stands in a node that is not posted yet: the entry of the head is widened."""
        yard = filled(Ranges(), [1, 2, 3, 4], most=3)
        puts = [yard.put(key) for key in (9, 8)]
        for put in puts + puts:
            put.step()
        self.assertEqual(yard.view()[0][1:], [leaf(2, 3, is_open=True), leaf(4, 5, is_posted=False)])
        self.assertIs(puts[0].step(), True)
        self.assertEqual(yard.view()[1][0][0], (((1, 2), 0), ((3, 9), 1)))
        self.assertIs(puts[1].step(), True)
        self.assertEqual(yard.view()[1][0][0], (((1, 2), 0), ((3, 4), 1), ((8, 9), 2)))

    def test_a_new_root_while_another_put_is_under_way(self):
        yard = filled(Ranges(), [1, 2, 3])
        low, high = yard.put(0), yard.put(4)
        low.step()
        low.step()
        self.assertFalse(low.is_done)
        yard.run(high)
        self.assertEqual(yard.height, 3)
        self.assertEqual([low.step(), low.step()], [False, True])
        self.assertEqual(yard.find((0, 4)), [0, 1, 2, 3, 4])
        self.assertEqual(yard.view()[2][0][0][0][0], (0, 1))

    def test_a_put_that_read_the_root_before_it_was_divided(self):
        yard = filled(Ranges(), [1, 2, 3])
        late = yard.put(9)
        late.step()
        yard.run(yard.put(4))
        yard.run(yard.put(5))
        before = yard.view()
        late.step()
        # It goes to the leaf that it chose, although other leaves stand to the right of it now.
        self.assertIn(3, yard.view()[0][1][0])
        self.assertNotEqual(yard.view(), before)
        yard.run(late)
        self.assertEqual(yard.find((9, 9)), [3])

    def test_search_reads_in_the_order_of_its_list(self):
        yard = filled(Ranges(), [1, 2, 3, 4, 5])
        search, told = yard.seek((1, 5)), []
        while not search.is_done:
            search.step()
            told.append(search.told)
        self.assertEqual(told[-1], [0, 1, 2, 3, 4])
        self.assertEqual([list(range(many)) for many in map(len, told)], told)

    def test_search_goes_on_to_the_right_of_a_node_divided_since(self):
        for linked, wanted in ((True, [0, 1, 2, 3]), (False, [0, 1])):
            yard = filled(Ranges(), [1, 2, 3], linked=linked)
            search, put = yard.seek((0, 9)), yard.put(4)
            search.step()
            put.step()
            put.step()
            yard.run(search)
            self.assertEqual(search.told, wanted)

    def test_search_goes_on_to_the_right_of_a_node_posted_since(self):
        for linked, wanted in ((True, [0, 1, 2, 3]), (False, [0, 1])):
            yard = filled(Ranges(), [1, 2, 3], linked=linked)
            search = yard.seek((0, 9))
            search.step()
            yard.run(yard.put(4))
            yard.run(search)
            self.assertEqual(search.told, wanted)

    def test_memo_of_a_search_that_begins_late(self):
        yard = filled(Ranges(), [1, 2, 3])
        early = yard.seek((0, 9))
        yard.run(yard.put(4))
        self.assertEqual([yard.run(early), sorted(early.told)], [6, [0, 1, 2, 3]])


class AskedTest(Checks):

    def test_each_step_asks_what_it_reads(self):
        kind = Noting(Ranges())
        yard = filled(kind, [10, 20, 30, 40])
        search = yard.seek((15, 30))
        asked = []
        while not search.is_done:
            kind.calls.clear()
            search.step()
            asked.append(list(kind.calls))
        wide = [("consistent", ((10, 10), (15, 30))), ("consistent", ((20, 40), (15, 30)))]
        lower = [("consistent", ((20, 20), (15, 30))), ("consistent", ((30, 40), (15, 30)))]
        self.assertEqual(asked, [wide, lower, [("matches", (20, (15, 30)))],
                                 [("matches", (30, (15, 30))), ("matches", (40, (15, 30)))]])

    def test_puts_ask_no_searching_and_searches_no_putting(self):
        kind = Noting(Ranges())
        yard = filled(kind, [5, 1, 9, 3, 5, 2])
        self.assertLessEqual(kind.names(), {"own", "join", "penalty"})
        kind.calls.clear()
        yard.find((0, 9))
        self.assertEqual(kind.names(), {"consistent", "matches"})
        kind.calls.clear()
        yard.put(3)
        yard.seek((1, 2))
        self.assertEqual(kind.calls, [])

    def test_a_step_down_asks_penalties_only(self):
        kind = Noting(Ranges())
        yard = filled(kind, [10, 20, 30])
        put = yard.put(7)
        kind.calls.clear()
        put.step()
        self.assertEqual(kind.calls, [("penalty", ((10, 10), 7)), ("penalty", ((20, 30), 7))])

    def test_first_of_equal_penalties(self):
        class Even(Ranges):
            def penalty(self, label, key):
                return {(10, 10): 4, (20, 30): 4}.get(label, 9)

        yard = filled(Even(), [10, 20, 30])
        yard.run(yard.put(99))
        self.assertEqual(yard.view()[0][0][0], (0, 3))

    def test_what_is_not_given_comes_through(self):
        class Lacking(Ranges):
            matches = Kind.matches

        yard = filled(Lacking(), [1, 2, 3])
        search = yard.seek((0, 9))
        search.step()
        before = snapshot(yard, search)
        for _ in range(2):
            self.fails(NotGiven, search.step, name="matches")
            self.fails(NotGiven, lambda: yard.run(search), name="matches")
            self.fails(NotGiven, lambda: yard.find((0, 9)), name="matches")
            self.assertEqual(snapshot(yard, search), before)


class BadLabelTest(Checks):

    def yards(self, wrong):
        """Yards in which some step of a put of 4 needs a label that is no plain value; and steps done before it."""
        return [({("own", (4,)): wrong}, 2), ({("join", ((3, 3), (4, 4))): wrong}, 2)]

    def test_in_the_middle_of_a_work(self):
        for wrong in odd_things():
            if not is_plain(wrong):
                for results, many in self.yards(wrong):
                    yard = filled(Replacing(Ranges(), results), [1, 2, 3])
                    put, search = yard.put(4), yard.seek((0, 9))
                    search.step()
                    for _ in range(many):
                        self.assertIs(put.step(), False)
                    before = snapshot(yard, put, search)
                    for _ in range(2):
                        self.fails(BadValue, put.step, value=wrong)
                        self.fails(BadValue, lambda: yard.run(put), value=wrong)
                        self.assertEqual(snapshot(yard, put, search), before)
                    # Searches go on beside the put that cannot.
                    self.assertEqual(yard.find((0, 9)), [0, 1, 2, 3])
                    results.clear()
                    self.assertIs(put.step(), True)

    def test_run_takes_its_steps_back(self):
        for results, _ in self.yards([4]):
            yard = filled(Replacing(Ranges(), results), [1, 2, 3])
            put = yard.put(4)
            before = snapshot(yard, put)
            for _ in range(2):
                self.fails(BadValue, lambda: yard.run(put), value=[4])
                self.assertEqual(snapshot(yard, put), before)
            results.clear()
            self.assertEqual(yard.run(put), 3)

    def test_a_widened_label(self):
        for results in ({("own", (0,)): True}, {("join", ((1, 1), (0, 0))): True}):
            yard = filled(Replacing(Ranges(), results), [1, 2, 3])
            put = yard.put(0)
            put.step()
            put.step()
            before = snapshot(yard, put)
            self.fails(BadValue, put.step, value=True)
            self.assertEqual(snapshot(yard, put), before)
            results.clear()
            self.assertIs(put.step(), True)
            self.assertEqual(yard.view()[1][0][0][0], ((0, 1), 0))

    def test_labels_over_a_new_root(self):
        for results in ({("own", (1,)): []}, {("own", (3,)): []}, {("join", ((2, 2), (3, 3))): []}):
            yard = filled(Replacing(Ranges(), results), [1, 2])
            put = yard.put(3)
            before = snapshot(yard, put)
            for _ in range(2):
                self.fails(BadValue, put.step, value=[])
                self.assertEqual(snapshot(yard, put), before)
            results.clear()
            self.assertIs(put.step(), True)

    def test_a_step_that_needs_no_label_asks_for_none(self):
        yard = filled(Replacing(Ranges(), {("own", (1,)): [], ("own", (2,)): []}), [1, 2])
        self.assertEqual((yard.view(), yard.find((0, 9))), ([[leaf(0, 1)]], [0, 1]))
        self.fails(BadValue, lambda: yard.run(yard.put(3)), value=[])

    def test_labels_that_are_too_deep(self):
        deep = (((((1,),),),),)
        yard = filled(Replacing(Ranges(), {("own", (3,)): deep}), [1, 2])
        self.fails(BadValue, yard.put(3).step, value=deep)

"""Full loops [14] and ranks that close [16]."""

import copy
import unittest

from plainly import THINGS, closes_by_words, dice_of, is_loop_by_words, some_net
from timecourt.ranks import closes, is_full_loop

# From a to b and on to the ring c d; e stands by itself.
NET = {"a": ["b"], "b": ["b", "c"], "c": ["d"], "d": ["c"], "e": ["e"]}
NO_MARKS = {node: [] for node in NET}
MARKS = {"a": [True, True], "b": [True, False], "c": [True, False], "d": [False, True], "e": [True, True]}


class Loops(unittest.TestCase):
    def told(self, wanted, thing, net=NET, marks=MARKS, begins=("a",)):
        with self.subTest(thing=thing):
            self.assertIs(is_full_loop(net, marks, list(begins), thing), wanted)

    def test_full_loops(self):
        self.told(True, (["a", "b"], ["c", "d"]))
        self.told(True, (["a", "b", "b", "c"], ["d", "c"]))
        self.told(True, (["a", "b"], ["c", "d", "c", "d"]))
        self.told(True, ([], ["e"]), begins=["e"])
        self.told(True, ([], ["c", "d"]), begins=["a", "c"])

    def test_a_mark_that_is_lacking(self):
        self.told(False, (["a"], ["b"]))
        self.told(True, (["a"], ["b"]), marks=NO_MARKS)
        self.told(False, (["a", "b"], ["c", "d"]), marks={**MARKS, "d": [True, False]})
        self.told(False, (["a", "b"], ["c", "d"]), marks={**MARKS, "c": [False, True]})
        # A mark in the way does not count.
        self.told(False, (["a"], ["b"]), marks={**MARKS, "a": [True, True]})

    def test_by_the_net_s_lists(self):
        for thing in ((["a"], ["c", "d"]), (["a", "b"], ["d", "c"]), (["a", "b"], ["c"]), (["a", "b"], ["c", "d", "c"]),
                      (["a"], ["e"]), (["a", "a", "b"], ["c", "d"]), ([], ["a", "b", "c", "d"]), (["a", "b", "c"], ["c", "d"]),
                      (["b", "a"], ["b"])):
            self.told(False, thing, marks=NO_MARKS)

    def test_it_begins_at_a_begin(self):
        self.told(False, (["b"], ["c", "d"]))
        self.told(True, (["b"], ["c", "d"]), begins=["c", "b"])
        self.told(False, ([], ["e"]))
        self.told(False, (["a", "b"], ["c", "d"]), begins=[])
        self.told(False, (["a", "b"], ["c", "d"]), begins=["d", "e"])

    def test_a_ring_of_none(self):
        for way in ([], ["a"], ["a", "b"]):
            self.told(False, (way, []), marks=NO_MARKS)

    def test_one_node(self):
        self.told(True, ([], [0]), {0: [0]}, {0: []}, [0])
        self.told(True, ([0, 0], [0, 0]), {0: [0]}, {0: [True]}, [0])
        self.told(False, ([], [0]), {0: [0]}, {0: [False]}, [0])
        self.told(False, ([], [0]), {0: []}, {0: []}, [0])

    def test_nodes_that_the_net_has_not(self):
        for node in ("z", 0, None, ("a",), b"a", "", "ab"):
            self.told(False, (["a", "b"], ["c", "d", node]))
            self.told(False, ([node], ["c", "d"]))
            self.told(False, ([], [node]))

    def test_a_truth_is_no_number(self):
        net, marks = {0: [1], 1: [0], (0, (True,)): [(0, (True,))]}, {0: [], 1: [], (0, (True,)): []}
        begins = [0, (0, (True,))]
        self.told(True, ([], [0, 1]), net, marks, begins)
        self.told(True, ([], [(0, (True,))]), net, marks, begins)
        for ring in ([0, True], [False, 1], [(0, (1,))], [(False, (True,))], [(0, [True])], [[0, (True,)]], [(0, (True, True))],
                     [(0,)], [(0, True)]):
            self.told(False, ([], ring), net, marks, begins)

    def test_of_anything(self):
        for thing in THINGS:
            self.told(False, thing)
            self.told(False, (thing, ["c", "d"]) if thing != [] else (thing, []))
            self.told(False, (["a", "b"], thing))
            self.told(False, (["a", "b"], ["c", "d"], thing))
            self.told(False, (["a", "b", thing], ["c", "d"]))
            self.told(False, (["a", "b"], ["c", thing]))
            self.told(False, (["a", "b"], [thing, "d"]))
        for thing in ([["a", "b"], ["c", "d"]], (("a", "b"), ["c", "d"]), (["a", "b"], ("c", "d")), (["a", "b"],), "ab",
                      ("ab", "cd"), ("loop", ["a", "b"], ["c", "d"]), {0: ["a", "b"], 1: ["c", "d"]}, (["a", "b", "c", "d"],),
                      ({"a": 1, "b": 1}, ["c", "d"])):
            self.told(False, thing)
        ring = ["c"]
        ring.append(ring)
        self.told(False, (["a", "b"], ring))

    def test_many_by_the_words(self):
        dice = dice_of(20)
        seen = set()
        for _ in range(3000):
            net, marks, begins = some_net(dice, 4, 1)
            nodes = list(net)
            way = [dice.choice(nodes) for _ in range(dice.randrange(3))]
            ring = [dice.choice(nodes) for _ in range(dice.randint(1, 2))]
            wanted = is_loop_by_words(net, marks, begins, way, ring)
            seen.add(wanted)
            self.told(wanted, (way, ring), net, marks, begins)
        self.assertEqual(seen, {True, False})

    def test_nothing_is_changed(self):
        given = (NET, MARKS, ["a"], (["a", "b"], ["c", "d"]))
        before = copy.deepcopy(given)
        is_full_loop(*given)
        self.assertEqual(given, before)


class Closes(unittest.TestCase):
    RANKS = {"a": 2, "b": 1, "c": 0, "d": 0}
    LACKS = {2: None, 1: 1, 0: 2}
    # No ring has the third mark at c and d, nor the second one at b.
    MARKED = {"a": [True, True, True], "b": [True, False, True], "c": [True, True, False], "d": [True, True, False],
              "e": [True, True, True]}

    def told(self, wanted, ranks, lacks, net=NET, marks=None, begins=("a",)):
        with self.subTest(ranks=ranks, lacks=lacks):
            self.assertIs(closes(net, self.MARKED if marks is None else marks, list(begins), ranks, lacks), wanted)

    def test_they_close(self):
        self.told(True, self.RANKS, self.LACKS)
        self.told(True, {"a": 20, "b": 7, "c": 5, "d": 5}, {20: None, 7: 1, 5: 2})
        self.told(True, {"c": 0, "d": 0}, {0: 2}, begins=["c", "d", "c"])
        self.told(True, {"c": 0, "d": 0}, {0: 2}, begins=[])

    def test_no_begins(self):
        self.told(True, {}, {}, begins=[])
        self.told(True, {}, {}, net={}, marks={}, begins=[])
        self.told(False, {}, {}, begins=["a"])
        self.told(False, {}, {0: None}, begins=[])
        self.told(False, {"e": 0}, {0: None}, begins=[])

    def test_a_begin_without_a_rank(self):
        self.told(False, {"b": 1, "c": 0, "d": 0}, {1: 1, 0: 2})
        self.told(False, self.RANKS, self.LACKS, begins=["a", "e"])
        self.told(False, {"c": 0, "d": 0}, {0: 2}, begins=["b"])

    def test_a_node_on_without_a_rank(self):
        self.told(False, {"a": 2, "c": 0, "d": 0}, {2: None, 0: 2})
        self.told(False, {"a": 2, "b": 1}, {2: None, 1: 1})
        self.told(False, {"a": 2, "b": 1, "c": 0}, self.LACKS)

    def test_a_rank_that_rises(self):
        self.told(False, {"a": 1, "b": 2, "c": 0, "d": 0}, {1: None, 2: 1, 0: 2})
        self.told(False, {"a": 3, "b": 1, "c": 2, "d": 2}, {3: None, 1: 1, 2: 2})
        self.told(False, {"a": 3, "b": 2, "c": 1, "d": 0}, {3: None, 2: 1, 1: 2, 0: 2})
        self.told(False, {"a": 3, "b": 2, "c": 1, "d": 0}, {3: None, 2: 1, 1: None, 0: None})

    def test_none_with_two_nodes_one_behind_the_other(self):
        self.told(False, self.RANKS, {2: None, 1: None, 0: 2})
        self.told(False, self.RANKS, {2: None, 1: 1, 0: None})
        net = {"a": ["b"], "b": ["c"], "c": [], "d": []}
        marks = {node: [] for node in net}
        self.told(True, {"a": 2, "b": 1, "c": 0}, {0: None, 1: None, 2: None}, net, marks)
        self.told(False, {"a": 1, "b": 1, "c": 0}, {0: None, 1: None}, net, marks)
        self.told(False, {"a": 1, "b": 0, "c": 0}, {0: None, 1: None}, net, marks)
        # Not one behind the other: the same rank is free.
        self.told(True, {"a": 2, "b": 1, "c": 0, "d": 1}, {0: None, 1: None, 2: None}, net, marks)

    def test_a_mark_that_is_true_somewhere(self):
        self.told(False, self.RANKS, {2: None, 1: 0, 0: 2})
        self.told(False, self.RANKS, {2: None, 1: 1, 0: 1})
        self.told(False, self.RANKS, {2: 0, 1: 1, 0: 2})
        for node in ("c", "d"):
            self.told(False, self.RANKS, self.LACKS, marks={**self.MARKED, node: [True, True, True]})
        self.told(False, self.RANKS, self.LACKS, marks={**self.MARKED, "b": [False, True, False]})

    def test_a_mark_may_stand_where_none_would_do(self):
        marks = {**self.MARKED, "a": [True, False, True]}
        self.told(True, self.RANKS, {2: 1, 1: 1, 0: 2}, marks=marks)

    def test_one_rank_for_all_that_lacks_one_mark(self):
        marks = {node: [False] for node in NET}
        self.told(True, {node: 0 for node in NET}, {0: 0}, marks=marks)
        self.told(True, {node: 0 for node in "abcd"}, {0: 0}, marks=marks)
        self.told(False, {node: 0 for node in "abcd"}, {0: 0}, marks={**marks, "d": [True]})

    def test_lacks_with_a_number_more_or_less(self):
        self.told(False, self.RANKS, {**self.LACKS, 3: None})
        self.told(False, self.RANKS, {**self.LACKS, 7: 1})
        self.told(False, self.RANKS, {**self.LACKS, -1: None})
        for rank in self.LACKS:
            less = dict(self.LACKS)
            del less[rank]
            self.told(False, self.RANKS, less)
        self.told(False, self.RANKS, {})

    def test_numbers_of_marks_that_there_are_none_of(self):
        for lack in (3, 4, -1, -2, -3, 10 ** 30):
            self.told(False, self.RANKS, {**self.LACKS, 0: lack})
            self.told(False, self.RANKS, {**self.LACKS, 1: lack})
        self.told(False, {"e": 0}, {0: 0}, marks={node: [] for node in NET}, begins=["e"])

    def test_a_truth_in_the_place_of_a_number(self):
        self.told(False, self.RANKS, {2: None, 1: True, 0: 2})
        self.told(False, self.RANKS, {2: None, True: 1, 0: 2})
        self.told(False, self.RANKS, {2: None, 1: 1, False: 2})
        self.told(False, {"a": 2, "b": True, "c": 0, "d": 0}, self.LACKS)
        self.told(False, {"a": 2, "b": 1, "c": False, "d": 0}, self.LACKS)
        marks = {**self.MARKED, "c": [False, True, True], "d": [False, True, True]}
        self.told(True, self.RANKS, {2: None, 1: 1, 0: 0}, marks=marks)
        self.told(False, self.RANKS, {2: None, 1: 1, 0: False}, marks=marks)

    def test_a_truth_in_the_place_of_a_node(self):
        net = {1: [0], 0: [], (0, (True, False)): []}
        marks = {node: [] for node in net}
        lacks = {0: None, 1: None}
        self.told(True, {1: 1, 0: 0}, lacks, net, marks, [1])
        self.told(False, {True: 1, 0: 0}, lacks, net, marks, [1])
        self.told(False, {1: 1, False: 0}, lacks, net, marks, [1])
        wish = (0, (True, False))
        self.told(True, {wish: 0}, {0: None}, net, marks, [wish])
        for other in ((0, (1, 0)), (0, (True, 0)), (False, (True, False))):
            self.told(False, {other: 0}, {0: None}, net, marks, [wish])
            self.told(False, {other: 0}, {0: None}, net, marks, [])

    def test_ranks_below_nought(self):
        self.told(False, {"c": -1, "d": -1}, {-1: 2}, begins=["c"])
        self.told(False, {"a": 2, "b": 1, "c": -1, "d": -1}, {2: None, 1: 1, -1: 2})

    def test_ranks_of_nodes_that_the_net_has_not(self):
        for node in ("z", 0, None, ("a",), (), b"a", True, frozenset(["a"]), object()):
            self.told(False, {**self.RANKS, node: 0}, self.LACKS)
            self.told(False, {**self.RANKS, node: 2}, self.LACKS)

    def test_of_anything(self):
        for thing in THINGS:
            if thing != {}:
                self.told(False, thing, self.LACKS)
                self.told(False, self.RANKS, thing)
                self.told(False, thing, thing)
                self.told(False, thing, {}, begins=[])
                self.told(False, {}, thing, begins=[])
            if thing is not None and thing != 1 and not (isinstance(thing, int) and not isinstance(thing, bool)):
                self.told(False, {**self.RANKS, "b": thing}, self.LACKS)
            if thing != 1 or thing is True:
                self.told(False, self.RANKS, {**self.LACKS, 1: thing})
        for thing in (list(self.RANKS.items()), tuple(self.RANKS.items()), list(self.RANKS), [self.RANKS]):
            self.told(False, thing, self.LACKS)
        for thing in (list(self.LACKS.items()), tuple(self.LACKS.items()), [None, 1, 2], [self.LACKS]):
            self.told(False, self.RANKS, thing)
        for key in ("0", None, (0,), b"0", "", frozenset([0])):
            self.told(False, self.RANKS, {2: None, 1: 1, key: 2})
            self.told(False, self.RANKS, {**self.LACKS, key: 2})
            self.told(False, {**self.RANKS, "c": key}, {**self.LACKS, key: 2})

    def test_many_by_the_words(self):
        dice = dice_of(21)
        seen = {True: 0, False: 0}
        while min(seen.values()) < 60:
            net, marks, begins = some_net(dice, 4, 2)
            ranks = {node: dice.randrange(3) for node in net if dice.random() < 0.7}
            many = len(next(iter(marks.values())))
            lacks = {rank: dice.choice([None] + list(range(many))) for rank in set(ranks.values())}
            wanted = closes_by_words(net, marks, begins, ranks, lacks)
            if seen[wanted] < 500:
                seen[wanted] += 1
                self.told(wanted, ranks, lacks, net, marks, begins)

    def test_nothing_is_changed(self):
        given = (NET, self.MARKED, ["a"], self.RANKS, self.LACKS)
        before = copy.deepcopy(given)
        closes(*given)
        self.assertEqual(given, before)


if __name__ == "__main__":
    unittest.main()

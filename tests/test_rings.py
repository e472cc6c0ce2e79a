"""A full loop, or ranks that close [15]."""

import copy
import unittest

from plainly import closes_by_words, dice_of, has_full_loop, is_loop_by_words, some_net
from timecourt.ranks import closes, is_full_loop
from timecourt.rings import loop_or_ranks


class LoopOrRanks(unittest.TestCase):
    def told(self, wanted, net, marks, begins):
        """Told is what is wanted, "loop" or "ranks", and it holds by the words of the document."""
        with self.subTest(net=net, marks=marks, begins=begins):
            told = loop_or_ranks(net, marks, begins)
            self.assertIs(type(told), tuple)
            self.assertEqual(len(told), 3)
            self.assertEqual(told[0], wanted)
            if wanted == "loop":
                self.assertTrue(type(told[1]) is list and type(told[2]) is list)
                self.assertTrue(is_loop_by_words(net, marks, begins, told[1], told[2]))
                self.assertIs(is_full_loop(net, marks, begins, told[1:]), True)
            else:
                self.assertTrue(all(type(rank) is int and rank >= 0 for rank in told[1].values()))
                self.assertTrue(all(node in net for node in told[1]))
                self.assertTrue(closes_by_words(net, marks, begins, told[1], told[2]))
                self.assertIs(closes(net, marks, begins, told[1], told[2]), True)
            return told

    def test_one_node(self):
        self.told("loop", {0: [0]}, {0: []}, [0])
        self.told("loop", {0: [0]}, {0: [True, True]}, [0])
        self.told("ranks", {0: [0]}, {0: [True, False]}, [0])
        self.told("ranks", {0: [0]}, {0: [False]}, [0])
        self.told("ranks", {0: []}, {0: []}, [0])
        self.told("ranks", {0: []}, {0: [True]}, [0])

    def test_no_begins(self):
        self.told("ranks", {0: [0]}, {0: []}, [])
        self.told("ranks", {}, {}, [])

    def test_nodes_that_are_not_reached(self):
        net, marks = {0: [1], 1: [], 2: [2], 3: [0, 3]}, {node: [] for node in range(4)}
        self.told("ranks", net, marks, [0])
        self.told("ranks", net, marks, [1, 0])
        self.told("loop", net, marks, [2])
        self.told("loop", net, marks, [0, 3])
        self.told("loop", net, marks, [1, 0, 2])

    def test_one_mark_lacks(self):
        ring = {0: [1], 1: [2], 2: [0]}
        self.told("loop", ring, {0: [True, False, False], 1: [False, True, False], 2: [False, False, True]}, [1])
        for lack in range(3):
            marks = {node: [node == number and number != lack for number in range(3)] for node in range(3)}
            self.told("ranks", ring, marks, [0])

    def test_marks_in_several_rings(self):
        # Two rings that share no node, one mark each: none is full.
        net = {0: [1, 2], 1: [1], 2: [2]}
        marks = {0: [True, True], 1: [True, False], 2: [False, True]}
        self.told("ranks", net, marks, [0])
        # With a way back both are one ring.
        self.told("loop", {0: [1, 2], 1: [1, 0], 2: [2, 0]}, marks, [1])
        self.told("loop", {0: [1, 2], 1: [1, 0], 2: [2, 0]}, {**marks, 0: [False, False]}, [1])
        self.told("ranks", {0: [1, 2], 1: [1, 0], 2: [2]}, {**marks, 0: [False, False]}, [1])

    def test_a_full_ring_behind_many_others(self):
        net = {node: [node, node + 1] for node in range(30)}
        net[30] = [30]
        marks = {node: [node == 30] for node in net}
        way, ring = self.told("loop", net, marks, [0])[1:]
        self.assertEqual(set(ring), {30})
        self.assertEqual((way + ring)[0], 0)
        marks[30] = [False]
        self.told("ranks", net, marks, [0])

    def test_long_rows_of_nodes(self):
        net = {node: [node + 1] for node in range(3000)}
        net[3000] = []
        marks = {node: [] for node in net}
        self.told("ranks", net, marks, [0])
        net[3000] = [0]
        self.told("loop", net, marks, [5])
        self.told("loop", net, {node: [node == 7] for node in net}, [5])
        self.told("ranks", net, {node: [False] for node in net}, [5])

    def test_nodes_of_all_kinds(self):
        nodes = [None, "a", (0, (True, False)), b"x", 7, (), True]
        net = {one: [other] for one, other in zip(nodes, nodes[1:])}
        net[True] = [None]
        self.told("loop", net, {node: [node == "a"] for node in nodes}, [None])
        self.told("ranks", net, {node: [False] for node in nodes}, [None])
        net[True] = []
        self.told("ranks", net, {node: [] for node in nodes}, [None])

    def test_begins_and_nodes_on_that_stand_twice(self):
        self.told("loop", {0: [1, 1], 1: [0, 0]}, {0: [True], 1: [False]}, [0, 0])
        self.told("ranks", {0: [1, 1], 1: []}, {0: [], 1: []}, [0, 0])

    def test_many_nets(self):
        dice = dice_of(22)
        seen = {"loop": 0, "ranks": 0}
        for _ in range(3000):
            net, marks, begins = some_net(dice, 7)
            wanted = "loop" if has_full_loop(net, marks, begins) else "ranks"
            seen[wanted] += 1
            self.told(wanted, net, marks, begins)
        self.assertGreater(min(seen.values()), 300)

    def test_the_same_each_time_and_new_each_time(self):
        dice = dice_of(23)
        for _ in range(100):
            given = some_net(dice, 6)
            before = copy.deepcopy(given)
            first = loop_or_ranks(*given)
            self.assertEqual(given, before)
            kept = copy.deepcopy(first)
            self.assertEqual(loop_or_ranks(*copy.deepcopy(given)), kept)
            first[1].clear()
            first[2].clear()
            self.assertEqual(given, before)
            self.assertEqual(loop_or_ranks(*given), kept)

    def test_nets_asked_by_turns(self):
        ring, row = {0: [1], 1: [0]}, {0: [1], 1: []}
        marks = {0: [], 1: []}
        for _ in range(2):
            self.told("loop", ring, marks, [0])
            self.told("ranks", row, marks, [0])
            self.told("ranks", ring, {0: [False], 1: [False]}, [0])


if __name__ == "__main__":
    unittest.main()

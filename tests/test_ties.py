"""Ties of two worlds, and worlds that are parted [21, 3]."""

import copy
import unittest

from plainly import (NAMES, THINGS, as_lists, dice_of, full_world, is_tie_by_words, ring_world, rooms_by_hand, slow_tie,
                     some_branch, some_world, unrolled)
from timecourt.branches import rooms_by_sets
from timecourt.cores import core_of, inner_parts, parts_of, size_of
from timecourt.errors import OtherFair, TooMany
from timecourt.judges import rooms_of
from timecourt.ties import compared, is_tie
from timecourt.worlds import World

A, B = ("sign", "a"), ("sign", "b")

# Two rooms by turns, and the same with each of them twice.
SMALL = World([["a"], []], [[1], [0]], [0], [])
GREAT = World([[], ["a"], [], ["a"]], [[1, 3], [2], [3], [0, 2]], [1], [])


def without_fair(world):
    return World(*as_lists(world)[:3], [])


def is_parting_core(core):
    """Whether a core is made of yes, sign, not, and, some of next alone."""
    for part in parts_of(core):
        if part[0] == "and" and (len(part) != 2 or len(part[1]) != 2):
            return False
        if part[0] == "some" and part[1][0] != "next":
            return False
        if part[0] not in ("yes", "sign", "not", "and", "some", "next"):
            return False
    # A next stands in a some alone.
    return all(one[0] != "next" for part in parts_of(core) for one in inner_parts(part) if part[0] != "next")


class IsTie(unittest.TestCase):
    tie = [(0, 1), (0, 3), (1, 0), (1, 2)]

    def test_ties(self):
        self.assertIs(is_tie(SMALL, GREAT, self.tie), True)
        self.assertIs(is_tie(GREAT, SMALL, [(there, here) for here, there in self.tie]), True)
        self.assertIs(is_tie(SMALL, GREAT, self.tie[::-1]), True)
        self.assertIs(is_tie(SMALL, GREAT, self.tie + self.tie[:1]), True)
        self.assertIs(is_tie(SMALL, SMALL, [(0, 0), (1, 1)]), True)

    def test_an_empty_one(self):
        self.assertIs(is_tie(SMALL, GREAT, []), True)
        self.assertIs(is_tie(SMALL, World([["c"]], [[0]], [0], []), []), True)

    def test_one_pair_too_few(self):
        # Room 0 leads to room 1, which is then tied to none.
        self.assertIs(is_tie(SMALL, SMALL, [(0, 0)]), False)
        # Room 0 of the other leads to 3, which is then tied to none; so does 2.
        self.assertIs(is_tie(SMALL, GREAT, [(0, 1), (1, 0), (1, 2)]), False)
        self.assertIs(is_tie(SMALL, GREAT, [(0, 1), (0, 3), (1, 0)]), False)

    def test_one_pair_too_many(self):
        for pair in ((0, 0), (0, 2), (1, 1), (1, 3)):
            self.assertIs(is_tie(SMALL, GREAT, self.tie + [pair]), False)

    def test_other_signs(self):
        for signs in ([["b"], []], [["a", "b"], []], [[], []], [["a"], ["a"]]):
            other = World(signs, [[1], [0]], [0], [])
            self.assertIs(is_tie(SMALL, other, [(0, 0), (1, 1)]), False)
            self.assertIs(is_tie(other, SMALL, [(0, 0), (1, 1)]), False)

    def test_each_way_round_is_asked(self):
        # The one has a way more than the other, to a room that is not tied.
        more = World([[], [], ["a"]], [[1, 2], [1], [2]], [0], [])
        less = World([[], []], [[1], [1]], [0], [])
        pairs = [(0, 0), (1, 1)]
        self.assertIs(is_tie(more, less, pairs), False)
        self.assertIs(is_tie(less, more, pairs), False)
        self.assertIs(is_tie(more, less, [(1, 1)]), True)
        self.assertIs(is_tie(less, more, [(1, 1)]), True)

    def test_neither_starts_nor_fair_signs_are_asked(self):
        one = World([["a"], []], [[0], [1]], [0], ["a"])
        other = World([["a"], []], [[0], [1]], [1], ["b", "a"])
        self.assertIs(is_tie(one, other, [(0, 0)]), True)
        self.assertIs(is_tie(one, other, [(1, 1)]), True)

    def test_by_the_words(self):
        dice = dice_of(211)
        ties = 0
        for _ in range(800):
            one, other = some_world(dice, 3), some_world(dice, 3)
            if dice.randrange(2):
                other = unrolled(dice, one, 2)[0]
            pairs = [(here, there) for here in range(one.many()) for there in range(other.many()) if dice.random() < 0.3]
            if dice.randrange(2):
                pairs = [pair for pair in slow_tie(one, other) if dice.random() < 0.9]
            wanted = is_tie_by_words(one, other, pairs)
            ties += wanted and len(pairs) > 0
            self.assertIs(is_tie(one, other, pairs), wanted)
        self.assertGreater(ties, 50)

    def test_what_is_no_list_of_pairs_of_rooms(self):
        for pairs in THINGS:
            if pairs != []:
                self.assertIs(is_tie(SMALL, SMALL, pairs), False)
        for pair in THINGS + ((0,), (0, 0, 0), (0, 2), (2, 0), (-1, 0), (0, -1), [0, 0], (True, True), ("a", 0)):
            self.assertIs(is_tie(SMALL, SMALL, [(0, 0), (1, 1), pair]), False)


class Compared(unittest.TestCase):
    def held(self, one, other):
        """Compares two worlds, and holds what is told against the words of the point."""
        told = compared(one, other)
        tie = slow_tie(one, other)
        alike = (all(any((here, there) in tie for there in other.begins()) for here in one.begins())
                 and all(any((here, there) in tie for here in one.begins()) for there in other.begins()))
        self.assertIs(type(told), tuple)
        if alike:
            self.assertEqual(told, ("alike", tie))
            self.assertIs(is_tie(one, other, tie), True)
            return told
        self.assertEqual((told[0], len(told)), ("parted", 3))
        which, core = told[1:]
        self.assertIs(type(which), int)
        self.assertIn(which, (0, 1))
        self.assertTrue(is_parting_core(core), core)
        here, there = [one, other][which], [one, other][1 - which]
        self.assertTrue(rooms_by_hand(here, core) & set(here.begins()))
        self.assertFalse(rooms_by_hand(there, core) & set(there.begins()))
        return told

    def test_alike(self):
        self.assertEqual(self.held(SMALL, GREAT), ("alike", [(0, 1), (0, 3), (1, 0), (1, 2)]))
        self.assertEqual(self.held(GREAT, SMALL), ("alike", [(0, 1), (1, 0), (2, 1), (3, 0)]))
        self.assertEqual(self.held(SMALL, SMALL), ("alike", [(0, 0), (1, 1)]))

    def test_one_room(self):
        one = World([["a"]], [[0]], [0], [])
        self.assertEqual(self.held(one, one), ("alike", [(0, 0)]))
        self.assertEqual(self.held(one, full_world([["a"]] * 20)), ("alike", [(0, room) for room in range(20)]))
        self.assertEqual(compared(one, World([[]], [[0]], [0], [])), ("parted", 0, A))
        self.assertEqual(compared(World([[]], [[0]], [0], []), one)[0], "parted")

    def test_rooms_that_are_not_reached_are_tied_too(self):
        one = World([["a"], ["b"], []], [[0], [1], [1]], [0], [])
        other = World([["b"], ["a"]], [[0], [1]], [1], [])
        self.assertEqual(self.held(one, other), ("alike", [(0, 1), (1, 0)]))

    def test_parted_at_once(self):
        one = World([["a"], []], [[0], [0]], [0], [])
        other = World([["b"], []], [[0], [0]], [0], [])
        self.held(one, other)
        self.held(one, World([[], ["a"]], [[0], [0]], [0], []))
        self.held(one, World([["a", "b"]], [[0]], [0], []))

    def test_parted_some_way_down(self):
        for many in (2, 3, 5, 10, 19, 20):
            rows = [[room + 1] for room in range(many - 1)] + [[many - 1]]
            one = World([[]] * (many - 1) + [["a"]], rows, [0], [])
            other = World([[]] * many, rows, [0], [])
            core = self.held(one, other)[2]
            self.assertEqual(size_of(core) - size_of(core) % 2, 2 * (many - 1))
            self.held(other, one)

    def test_ways_that_branch_early_or_late(self):
        early = World([[], [], [], ["a"], ["b"]], [[1, 2], [3], [4], [3], [4]], [0], [])
        late = World([[], [], ["a"], ["b"]], [[1], [2, 3], [2], [3]], [0], [])
        self.held(early, late)
        self.held(late, early)

    def test_a_start_that_no_start_is_tied_to(self):
        signs, ways = [["a"], ["b"]], [[0], [1]]
        both = World(signs, ways, [0, 1], [])
        first = World(signs, ways, [0], [])
        self.assertEqual(self.held(both, first)[:2], ("parted", 0))
        self.assertEqual(self.held(first, both)[:2], ("parted", 1))
        self.assertEqual(self.held(both, both)[0], "alike")
        # Each has a start that the other lacks.
        self.held(World([["a"], ["b"], ["c"]], [[0], [1], [2]], [0, 1], []),
                  World([["a"], ["b"], ["c"]], [[0], [1], [2]], [1, 2], []))
        # Several starts have to be told from one, each by another sign.
        self.held(World([[]], [[0]], [0], []), World([["a"], ["b"], ["c"]], [[0], [1], [2]], [0, 1, 2], []))

    def test_fair_signs(self):
        signs, ways = [["a"], ["b"]], [[0, 1], [0, 1]]
        one = World(signs, ways, [0], ["a", "b"])
        other = World(signs, ways, [0], ["b", "a"])
        self.assertEqual(self.held(one, other), ("alike", [(0, 0), (1, 1)]))
        none = World(signs, ways, [0], [])
        for fair in (["a"], ["b"], ["a", "c"], ["a", "b", "c"], []):
            third = World(signs, ways, [0], fair)
            for pair in ((one, third), (third, one)):
                with self.assertRaises(OtherFair) as caught:
                    compared(*pair)
                self.assertIs(type(caught.exception), OtherFair)
        with self.assertRaises(OtherFair):
            compared(none, one)
        # Also where they are parted all the same, or have nothing of the sign at all.
        with self.assertRaises(OtherFair):
            compared(World([["a"]], [[0]], [0], ["z"]), World([["b"]], [[0]], [0], []))

    def test_parted_worlds_are_read_without_fair_signs(self):
        # No fair way begins in either; they are parted all the same.
        one = World([[], ["a"]], [[1], [1]], [0], ["z"])
        other = World([[], []], [[1], [1]], [0], ["z"])
        which, core = self.held(one, other)[1:]
        here = without_fair([one, other][which])
        self.assertIn(0, rooms_by_sets(here, core))
        self.assertIn(0, rooms_of(here, core))

    def test_many_worlds(self):
        dice = dice_of(212)
        told = {"alike": 0, "parted": 0}
        for _ in range(500):
            fair = dice.randint(0, 3)
            one = some_world(dice, 5, fair)
            other = some_world(dice, 5, fair)
            other = World(*as_lists(other)[:3], dice.sample(one.fair_signs(), fair))
            if dice.randrange(3) == 0:
                other = unrolled(dice, one, 3)[0]
            told[self.held(one, other)[0]] += 1
        self.assertGreater(min(told.values()), 60)

    def test_great_worlds(self):
        dice = dice_of(213)
        for _ in range(60):
            signs = [[name for name in NAMES if dice.random() < 0.1] for _ in range(20)]
            ways = [dice.sample(range(20), dice.randint(1, 3)) for _ in range(20)]
            one = World(signs, ways, [0], [])
            changed = list(ways)
            changed[dice.randrange(20)] = [dice.randrange(20)]
            for other in (World(signs, changed, [0], []), World(signs, ways, [1], []), ring_world(20, signs)):
                told = self.held(one, other)
                if told[0] == "parted":
                    which, core = told[1:]
                    self.assertLess(size_of(core), 500)
                    pair = (one, other)
                    self.assertIn(pair[which].begins()[0], rooms_by_sets(pair[which], core))
                    self.assertNotIn(pair[1 - which].begins()[0], rooms_by_sets(pair[1 - which], core))
                    self.assertEqual(core_of(core), core)

    def test_worlds_that_are_alike_keep_the_same_sentences(self):
        dice = dice_of(214)
        tried = 0
        while tried < 120:
            one = some_world(dice, 4, dice.randint(0, 3))
            other = unrolled(dice, one, 2)[0]
            sentence = some_branch(dice, 3)
            for judge in (rooms_by_sets, rooms_of):
                try:
                    mine, yours = judge(one, sentence), judge(other, sentence)
                except TooMany:
                    continue
                tried += 1
                for here, there in compared(one, other)[1]:
                    self.assertEqual(here in mine, there in yours)

    def test_nothing_is_changed_and_all_is_new(self):
        early = World([[], [], [], ["a"], ["b"]], [[1, 2], [3], [4], [3], [4]], [0], [])
        late = World([[], [], ["a"], ["b"]], [[1], [2, 3], [2], [3]], [0], [])
        for one, other in ((SMALL, GREAT), (early, late)):
            before = as_lists(one), as_lists(other)
            told = compared(one, other)
            kept = copy.deepcopy(told)
            if told[0] == "alike":
                told[1].clear()
            self.assertEqual(compared(one, other), kept)
            self.assertEqual(compared(World(*as_lists(one)), World(*as_lists(other))), kept)
            self.assertEqual((as_lists(one), as_lists(other)), before)
        pairs = [(0, 1), (1, 0), (1, 2), (0, 3)]
        is_tie(SMALL, GREAT, pairs)
        self.assertEqual(pairs, [(0, 1), (1, 0), (1, 2), (0, 3)])


if __name__ == "__main__":
    unittest.main()

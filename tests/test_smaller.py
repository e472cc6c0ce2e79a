"""Worlds made smaller [22]."""

import copy
import unittest

from plainly import as_lists, dice_of, full_world, ring_world, slow_tie, some_branch, some_world, unrolled
from timecourt.branches import rooms_by_sets
from timecourt.errors import TooMany
from timecourt.judges import is_kept, rooms_of
from timecourt.smaller import smaller
from timecourt.ties import compared
from timecourt.worlds import World


def by_words(world):
    """The smaller world by the words of the point."""
    tie = slow_tie(world, world)
    heads = [room for room in range(world.many()) if min(other for one, other in tie if one == room) == room]
    rooms = [heads.index(min(other for one, other in tie if one == room)) for room in range(world.many())]
    signs = [world.signs_of(head) for head in heads]
    ways = [sorted({rooms[further] for room in range(world.many()) if rooms[room] == at for further in world.ways_on(room)})
            for at in range(len(heads))]
    return [signs, ways, sorted({rooms[start] for start in world.begins()}), world.fair_signs()], rooms


class Smaller(unittest.TestCase):
    def held(self, world):
        told = smaller(world)
        self.assertIs(type(told), tuple)
        self.assertEqual(len(told), 2)
        less, rooms = told
        wanted, classes = by_words(world)
        self.assertEqual(as_lists(less), wanted)
        self.assertEqual(rooms, classes)
        self.assertEqual(compared(world, less), ("alike", list(enumerate(rooms))))
        self.assertEqual(compared(less, less), ("alike", [(room, room) for room in range(less.many())]))
        return as_lists(less), rooms

    def test_tied_rooms(self):
        world = World([[], ["a"], [], ["a"]], [[1, 3], [2], [3], [0, 2]], [3, 1], [])
        self.assertEqual(self.held(world), ([[[], ["a"]], [[1], [0]], [1], []], [0, 1, 0, 1]))

    def test_the_order_is_that_of_the_first_rooms(self):
        world = World([["c"], ["b"], ["a"], ["b"], ["c"]], [[1], [2, 0], [2], [2, 4], [3, 1]], [4, 3, 2], ["z", "a"])
        self.assertEqual(self.held(world), ([[["c"], ["b"], ["a"]], [[1], [0, 2], [2]], [0, 1, 2], ["z", "a"]],
                                            [0, 1, 2, 1, 0]))

    def test_no_tied_rooms(self):
        world = World([["a"], [], []], [[1], [2], [0]], [0, 2], ["a"])
        self.assertEqual(self.held(world), (as_lists(world), [0, 1, 2]))
        chain = ring_world(4, [["a"], [], [], []])
        self.assertEqual(self.held(chain), (as_lists(chain), [0, 1, 2, 3]))

    def test_rooms_that_are_not_reached_stay(self):
        world = World([["a"], ["b"], ["b"]], [[0], [0], [0]], [0], [])
        self.assertEqual(self.held(world), ([[["a"], ["b"]], [[0], [0]], [0], []], [0, 1, 1]))

    def test_one_room(self):
        world = World([["a"]], [[0]], [0], ["a"])
        self.assertEqual(self.held(world), (as_lists(world), [0]))

    def test_twenty_rooms(self):
        self.assertEqual(self.held(full_world([["a"]] * 20)), ([[["a"]], [[0]], [0], []], [0] * 20))
        self.assertEqual(self.held(full_world([["a"], []] * 10)), ([[["a"], []], [[0, 1], [0, 1]], [0], []], [0, 1] * 10))
        ring = ring_world(20, [["a"]] + [[]] * 19)
        self.assertEqual(self.held(ring), (as_lists(ring), list(range(20))))
        fives = ring_world(20, ([["a"]] + [[]] * 4) * 4, ["a"])
        self.assertEqual(self.held(fives)[1], [0, 1, 2, 3, 4] * 4)

    def test_many_worlds(self):
        dice = dice_of(221)
        less = 0
        for _ in range(150):
            world = some_world(dice, 6, dice.randint(0, 3))
            if dice.randrange(2):
                world = unrolled(dice, world, 3)[0]
            less += max(self.held(world)[1]) + 1 < world.many()
        self.assertGreater(less, 60)

    def test_both_keep_the_same_sentences(self):
        dice = dice_of(222)
        tried = 0
        while tried < 100:
            world = unrolled(dice, some_world(dice, 4, dice.randint(0, 3)), 2)[0]
            less, rooms = smaller(world)
            sentence = some_branch(dice, 3)
            try:
                here, there = rooms_of(world, sentence), rooms_of(less, sentence)
            except TooMany:
                continue
            tried += 1
            self.assertEqual(here, [room for room in range(world.many()) if rooms[room] in there])
            self.assertEqual(rooms_by_sets(less, sentence), there)
            self.assertEqual(is_kept(world, sentence), is_kept(less, sentence))

    def test_nothing_is_changed_and_all_is_new(self):
        world = World([[], ["a"], [], ["a"]], [[1, 3], [2], [3], [0, 2]], [3, 1], ["a"])
        before = as_lists(world)
        less, rooms = smaller(world)
        kept = as_lists(less), copy.copy(rooms)
        rooms.append(7)
        less, again = smaller(world)
        self.assertEqual((as_lists(less), again), kept)
        self.assertEqual(as_lists(world), before)


if __name__ == "__main__":
    unittest.main()

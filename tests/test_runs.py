"""Runs [5]."""

import copy
import unittest

from timecourt.runs import first_room, is_fair, is_run
from timecourt.worlds import World

# The way from room 2 to room 0 closes the ring 0 1 2; from room 3 nothing leads back.
SIGNS = [["a"], ["b"], ["a", "c"], ["a", "b", "c"]]
WAYS = [[1], [2], [0, 2, 3], [3]]


def world_with(fair):
    return World(SIGNS, WAYS, [0], fair)


def ring_of(many):
    """A world with one way, round all its rooms."""
    return World([[] for _ in range(many)], [[(room + 1) % many] for room in range(many)], [0], [])


class Runs(unittest.TestCase):
    def setUp(self):
        self.world = world_with(["a"])

    def is_one(self, thing, world=None):
        with self.subTest(thing=thing):
            self.assertIs(is_run(world or self.world, thing), True)

    def is_none(self, thing, world=None):
        with self.subTest(thing=thing):
            self.assertIs(is_run(world or self.world, thing), False)

    def test_runs_with_an_empty_way(self):
        for ring in ([0, 1, 2], [1, 2, 0], [2], [3], [2, 2, 0, 1], [0, 1, 2, 0, 1, 2]):
            self.is_one(([], ring))

    def test_runs_with_a_way(self):
        for run in (([0, 1], [2]), ([2, 2, 2], [3]), ([0], [1, 2, 0]), ([3], [3]), ([0, 1, 2, 0, 1], [2, 0, 1])):
            self.is_one(run)

    def test_long_runs(self):
        self.is_one(([0, 1, 2] * 1000, [3] * 500))
        self.is_none(([0, 1, 2] * 1000 + [1], [2]))
        self.is_one(([0, 1] + [2] * 3000, [0, 1, 2] * 500))

    def test_worlds_of_one_and_of_twenty_rooms(self):
        self.is_one(([], [0]), ring_of(1))
        self.is_one(([0, 0], [0, 0, 0]), ring_of(1))
        self.is_none(([], [1]), ring_of(1))
        rooms = list(range(20))
        self.is_one(([], rooms), ring_of(20))
        self.is_one((rooms[7:], rooms), ring_of(20))
        self.is_none(([], rooms + [20]), ring_of(20))
        self.is_none((rooms[6:-1], rooms), ring_of(20))

    def test_a_ring_of_none(self):
        for way in ([], [0], [0, 1, 2], [3]):
            self.is_none((way, []))

    def test_a_way_leads_from_each_room_to_the_next_one(self):
        for run in (([0, 2], [3]), ([1, 0, 1], [2]), ([3, 2], [2]), ([0, 0, 1], [2]), ([2, 1], [2])):
            self.is_none(run)
        for ring in ([0, 2, 1], [0, 1, 1, 2], [2, 0, 2]):
            self.is_none(([], ring))

    def test_a_way_leads_from_way_to_ring(self):
        self.is_none(([0], [2]))
        self.is_none(([1], [3]))
        self.is_none(([0, 1], [0, 1, 2]))
        self.is_one(([0, 1], [2, 0, 1]))

    def test_a_way_leads_from_the_ring_s_last_room_to_its_first(self):
        self.is_none(([], [0]))
        self.is_none(([], [0, 1]))
        self.is_none(([], [2, 3]))
        self.is_none(([2], [0, 1]))
        self.is_none(([0, 1], [2, 3]))
        self.is_none(([], [1, 2, 2]))

    def test_the_ring_closes_to_its_own_first_room(self):
        # Room 1 leads back to the way's first room, and not to the ring's.
        world = World([[], []], [[1], [0]], [0], [])
        self.is_none(([0], [1]), world)
        self.is_one(([0], [1, 0]), world)

    def test_ways_go_in_their_direction(self):
        world = World([[], []], [[1], [1]], [0], [])
        self.is_one(([0], [1]), world)
        self.is_none(([1], [0]), world)
        self.is_none(([], [1, 0]), world)

    def test_runs_need_not_begin_at_a_start_nor_be_fair(self):
        self.is_one(([1], [2]), world_with(["b"]))

    def test_rooms_beyond_the_last_and_below_nought(self):
        for room in (4, 5, -1, -2, -4, 10 ** 30, -10 ** 30):
            self.is_none(([], [room]))
            self.is_none(([room], [3]))
            self.is_none(([3], [3, room]))
            self.is_none(([3, room], [3]))
            self.is_none(([room, 2], [3]))

    def test_truths_are_no_rooms(self):
        world = World([[], []], [[0, 1], [0, 1]], [0], [])
        self.is_one(([0, 1], [1, 0]), world)
        for truth in (True, False):
            self.is_none(([], [truth]), world)
            self.is_none(([truth], [0]), world)
            self.is_none(([0, truth], [0]), world)
            self.is_none(([0], [1, truth]), world)
        self.is_none(([], [False]), ring_of(1))

    def test_of_anything(self):
        for thing in (None, True, False, 0, 3, "", "33", "ab", b"33", [], {}, (), set(), frozenset({3}), object(), len, int,
                      self.world, range(2), {0: [3], 1: [3]}, {"way": [3], "ring": [3]}, [3], [3, 3]):
            self.is_none(thing)

    def test_other_than_a_tuple_of_two(self):
        for thing in ([[], [3]], [[3], [3]], ([3],), ([3], [3], [3]), ([], [3], []), ([3], [3], None), (([3], [3]),),
                      [([3], [3])]):
            self.is_none(thing)

    def test_other_than_two_lists(self):
        for thing in (None, True, 0, 3, "", "3", b"\x03", (), (3,), {}, {3: 3}, {3}, range(3, 4), object()):
            self.is_none((thing, [3]))
            self.is_none(([3], thing))
            self.is_none((thing, thing))

    def test_other_than_rooms_in_the_lists(self):
        for thing in (None, "3", "", b"3", (), (3,), [], [3], {}, {3: 3}, {3}, object(), len):
            self.is_none(([], [thing]))
            self.is_none(([], [3, thing]))
            self.is_none(([thing], [3]))
            self.is_none(([3, thing], [3]))

    def test_things_that_hold_themselves(self):
        ring = [3]
        ring.append(ring)
        self.is_none(([], ring))
        self.is_none((ring, [3]))

    def test_nothing_is_changed(self):
        for thing in (([0, 1], [2, 0, 1]), ([0], []), ([1, 0], [3]), ([], [3])):
            before = copy.deepcopy(thing)
            is_run(self.world, thing)
            self.assertEqual(thing, before)
        run = ([0, 1], [2])
        is_fair(self.world, run)
        first_room(run)
        self.assertEqual(run, ([0, 1], [2]))
        self.assertEqual([self.world.ways_on(room) for room in range(4)], WAYS)


class Fair(unittest.TestCase):
    def fair(self, fair, run, answer):
        with self.subTest(fair=fair, run=run):
            self.assertIs(is_fair(world_with(fair), run), answer)

    def test_each_run_is_fair_where_no_sign_is(self):
        for run in (([], [3]), ([0], [1, 2, 0]), ([0, 1], [2])):
            self.fair([], run, True)

    def test_each_fair_sign_is_in_the_ring(self):
        self.fair(["a"], ([], [2]), True)
        self.fair(["b"], ([], [2]), False)
        self.fair(["a", "c"], ([], [2]), True)
        self.fair(["c", "a"], ([], [2]), True)
        self.fair(["a", "b"], ([], [2]), False)
        self.fair(["b", "a"], ([], [2]), False)
        self.fair(["c", "b", "a"], ([], [3]), True)
        self.fair(["c", "a", "far"], ([], [3]), False)
        self.fair(["far"], ([], [3]), False)

    def test_the_rooms_of_the_ring_share_the_fair_signs(self):
        self.fair(["a", "b", "c"], ([], [0, 1, 2]), True)
        self.fair(["c", "b"], ([1, 2], [0, 1, 2]), True)
        self.fair(["far", "b"], ([], [0, 1, 2]), False)

    def test_the_way_does_not_count(self):
        self.fair(["b"], ([0, 1], [2]), False)
        self.fair(["a", "b", "c"], ([0, 1], [2]), False)
        self.fair(["c"], ([0, 1], [2]), True)

    def test_each_room_of_the_ring_counts(self):
        self.fair(["b"], ([], [0, 1, 2]), True)
        self.fair(["b"], ([], [1, 2, 0]), True)
        self.fair(["b"], ([], [2, 0, 1]), True)

    def test_a_sign_is_the_whole_name(self):
        world = World([["abc"]], [[0]], [0], ["ab"])
        self.assertIs(is_fair(world, ([], [0])), False)


class First(unittest.TestCase):
    def test_where_a_run_begins(self):
        self.assertEqual(first_room(([0, 1], [2])), 0)
        self.assertEqual(first_room(([1], [2, 0, 1])), 1)
        self.assertEqual(first_room(([2, 2, 2], [3])), 2)

    def test_where_the_way_is_empty(self):
        self.assertEqual(first_room(([], [2, 0, 1])), 2)
        self.assertEqual(first_room(([], [3])), 3)
        self.assertEqual(first_room(([], [0, 1, 2])), 0)

    def test_room_nought_is_a_room_too(self):
        self.assertEqual(first_room(([0], [1, 2, 0])), 0)


if __name__ == "__main__":
    unittest.main()

"""Worlds [4], and that they and the asker's lists are kept apart [2]."""

import copy
import unittest

from timecourt.errors import BadWorld
from timecourt.worlds import World

OTHER_KINDS = (None, True, False, 0, 1, -1, 7, "", "a", "ab", b"a", (), (0,), ("a",), {}, {0: 0}, {"a": 1},
               {0}, {"a"}, frozenset(), range(1), object(), World, len)


def told(world):
    """All that a world tells."""
    return {
        "many": world.many(),
        "signs": [world.signs_of(room) for room in range(world.many())],
        "ways": [world.ways_on(room) for room in range(world.many())],
        "starts": world.begins(),
        "fair": world.fair_signs(),
    }


def lists():
    """Four lists that make a world, in no order, made anew each time."""
    return [[["b", "a"], [], ["c", "abc", "ab"]], [[2, 1, 0], [1], [2, 0]], [2, 0], ["c", "a", "b"]]


def kinds(thing):
    """The things and their very kinds, since True == 1."""
    if isinstance(thing, (list, tuple)):
        return [type(thing)] + [kinds(inner) for inner in thing]
    return (type(thing), thing)


class Worlds(unittest.TestCase):
    def refused(self, signs, ways, starts, fair):
        given = (signs, ways, starts, fair)
        with self.subTest(given=given):
            with self.assertRaises(BadWorld) as caught:
                World(signs, ways, starts, fair)
            self.assertIs(type(caught.exception), BadWorld)

    def refused_with(self, place, thing):
        """Refused, where one of four good lists is another thing."""
        given = lists()
        given[place] = thing
        self.refused(*given)

    def test_a_world_of_one_room(self):
        self.assertEqual(told(World([[]], [[0]], [0], [])),
                         {"many": 1, "signs": [[]], "ways": [[0]], "starts": [0], "fair": []})

    def test_a_world_of_a_few_rooms_is_told_sorted_but_for_fair(self):
        self.assertEqual(told(World(*lists())), {
            "many": 3,
            "signs": [["a", "b"], [], ["ab", "abc", "c"]],
            "ways": [[0, 1, 2], [1], [0, 2]],
            "starts": [0, 2],
            "fair": ["c", "a", "b"],
        })

    def test_lists_in_rising_order_stay_so(self):
        world = World([["a", "b"], ["c"]], [[0, 1], [0]], [0, 1], ["a", "b"])
        self.assertEqual(told(world), {"many": 2, "signs": [["a", "b"], ["c"]], "ways": [[0, 1], [0]],
                                       "starts": [0, 1], "fair": ["a", "b"]})

    def test_rooms_are_sorted_as_numbers(self):
        world = World([[] for _ in range(12)], [[10, 9, 2, 11, 1]] + [[0]] * 11, [11, 9, 10, 2], [])
        self.assertEqual(world.ways_on(0), [1, 2, 9, 10, 11])
        self.assertEqual(world.begins(), [2, 9, 10, 11])

    def test_what_is_told_are_lists(self):
        world = World(*lists())
        self.assertIs(type(world.many()), int)
        for thing in (world.signs_of(0), world.ways_on(0), world.begins(), world.fair_signs()):
            self.assertIs(type(thing), list)

    def test_one_to_twenty_rooms(self):
        for many in (1, 2, 19, 20):
            with self.subTest(many=many):
                world = World([["a"]] * many, [list(range(many))[::-1]] * many, list(range(many))[::-1], [])
                self.assertEqual(told(world), {
                    "many": many, "signs": [["a"]] * many, "ways": [list(range(many))] * many,
                    "starts": list(range(many)), "fair": [],
                })
        for many in (21, 22, 100):
            self.refused([[]] * many, [[0]] * many, [0], [])
        for starts in ([], [0]):
            self.refused([], [], starts, [])

    def test_as_many_rooms_with_ways_as_with_signs(self):
        self.refused([[], []], [[0]], [0], [])
        self.refused([[]], [[0], [0]], [0], [])
        self.refused([[]], [], [0], [])
        self.refused([], [[0]], [0], [])
        self.refused([[]] * 20, [[0]] * 21, [0], [])
        self.refused([[]] * 21, [[0]] * 20, [0], [])

    def test_names_have_one_to_eight_small_letters(self):
        names = ["a", "z", "ab", "abcdefgh", "stuvwxyz", "ijklmnop", "qr", "zzzzzzzz", "aaaaaaa"]
        self.assertEqual(World([names], [[0]], [0], []).signs_of(0), sorted(names))
        for name in names:
            self.assertEqual(World([[]], [[0]], [0], [name]).fair_signs(), [name])

    def test_other_names_are_refused(self):
        wrong = ["", "abcdefghi", "zzzzzzzzz", "A", "Z", "aB", "a1", "1", "a b", " a", "a ", " ", "a_", "_", "a-b", "a\n",
                 "\n", "abcdefgh\n", "a.", "`", "{", "@", "[", "~", "a" * 1000]
        for name in wrong:
            self.refused([[name]], [[0]], [0], [])
            self.refused([["a"], ["b", name]], [[0], [0]], [0], [])
            self.refused([[]], [[0]], [0], [name])
            self.refused([[]], [[0]], [0], ["a", name])

    def test_a_room_needs_a_way_on(self):
        self.refused([[]], [[]], [0], [])
        self.refused([[], []], [[0, 1], []], [0], [])
        self.refused([[], []], [[], [0]], [1], [])

    def test_there_is_a_start(self):
        self.refused([[]], [[0]], [], [])
        self.refused_with(2, [])

    def test_nothing_stands_twice(self):
        self.refused_with(0, [["a", "b", "a"], [], []])
        self.refused_with(0, [[], [], ["a", "a"]])
        self.refused_with(1, [[0, 1, 0], [1], [2]])
        self.refused_with(1, [[0], [1], [2, 2]])
        self.refused_with(2, [0, 0])
        self.refused_with(2, [2, 0, 2])
        self.refused_with(3, ["a", "a"])
        self.refused_with(3, ["a", "b", "a"])

    def test_rooms_may_be_like_one_another(self):
        world = World([["a"], ["a"]], [[0, 1], [0, 1]], [0, 1], ["a"])
        self.assertEqual(told(world), {"many": 2, "signs": [["a"], ["a"]], "ways": [[0, 1], [0, 1]],
                                       "starts": [0, 1], "fair": ["a"]})

    def test_rooms_are_numbered_from_nought(self):
        for many in (1, 2, 20):
            for room in (many, many + 1, -1, -many, 10 ** 30, -10 ** 30):
                self.refused([[]] * many, [[0]] * (many - 1) + [[room]], [0], [])
                self.refused([[]] * many, [[0, room]] + [[0]] * (many - 1), [0], [])
                self.refused([[]] * many, [[0]] * many, [room], [])
                self.refused([[]] * many, [[0]] * many, [0, room], [])
            last = World([[]] * many, [[many - 1]] * many, [many - 1], [])
            self.assertEqual((last.ways_on(0), last.begins()), ([many - 1], [many - 1]))

    def test_truths_are_no_rooms(self):
        for truth in (True, False):
            self.refused_with(1, [[truth], [1], [2]])
            self.refused_with(1, [[2, truth], [1], [2]])
            self.refused_with(1, [[0], [1], [truth]])
            self.refused_with(2, [truth])
            self.refused_with(2, [2, truth])
            self.refused_with(0, truth)
            self.refused_with(0, [[truth], [], []])
            self.refused_with(3, [truth])

    def test_at_most_three_fair_signs(self):
        for fair in ([], ["b"], ["b", "a"], ["c", "a", "b"], ["b", "c", "a"], ["a", "b", "c"]):
            with self.subTest(fair=fair):
                self.assertEqual(World([["a"]], [[0]], [0], fair).fair_signs(), fair)
        self.refused([["a"]], [[0]], [0], ["a", "b", "c", "d"])
        self.refused([["a"]], [[0]], [0], ["d", "c", "b", "a", "e"])

    def test_a_fair_sign_need_be_no_room_s(self):
        self.assertEqual(World([[]], [[0]], [0], ["far"]).fair_signs(), ["far"])

    def test_other_kinds_for_the_lists_are_refused(self):
        for thing in OTHER_KINDS:
            for place in range(4):
                self.refused_with(place, thing)
        self.refused_with(0, (["a"], [], []))
        self.refused_with(1, ([0], [1], [2]))
        self.refused_with(0, {0: ["a"], 1: [], 2: []})
        self.refused_with(1, {0: [0], 1: [1], 2: [2]})
        self.refused_with(2, {0: 0, 1: 1})
        self.refused_with(3, {"a": 1})
        self.refused_with(0, "abc")
        self.refused_with(3, "abc")

    def test_other_kinds_in_the_lists_are_refused(self):
        for thing in OTHER_KINDS:
            self.refused_with(0, [thing, [], []])
            self.refused_with(0, [[], [], thing])
            self.refused_with(1, [thing, [1], [2]])
            self.refused_with(1, [[0], [1], thing])

    def test_other_kinds_for_names_and_rooms_are_refused(self):
        for thing in OTHER_KINDS + ([], ["a"], [0]):
            if not (type(thing) is str and thing):
                self.refused_with(0, [["x", thing], [], []])
                self.refused_with(0, [[], [], [thing]])
                self.refused_with(3, [thing])
                self.refused_with(3, ["x", thing])
            if not (type(thing) is int and 0 <= thing < 3):
                self.refused_with(1, [[2, thing], [1], [2]])
                self.refused_with(1, [[0], [1], [thing]])
                self.refused_with(2, [thing])
                self.refused_with(2, [2, thing])

    def test_lists_that_hold_themselves_are_refused(self):
        ring = []
        ring.append(ring)
        for place in range(4):
            self.refused_with(place, ring)


class KeptApart(unittest.TestCase):
    def test_what_is_handed_in_is_the_same_behind_the_call(self):
        given = lists()
        before = copy.deepcopy(given)
        world = World(*given)
        told(world)
        self.assertEqual(given, before)

    def test_what_is_refused_is_the_same_behind_the_call(self):
        given = [[["b", "a"], ["d", "c", "d"]], [[1, 0], [True, 0]], [1, 0, 1], ["z", "y", "z"]]
        before = copy.deepcopy(given)
        with self.assertRaises(BadWorld):
            World(*given)
        self.assertEqual(kinds(given), kinds(before))

    def test_what_the_asker_changes_behind_the_call_changes_nothing(self):
        given = lists()
        world = World(*given)
        before = told(world)
        for names in given[0]:
            names.append("new")
        for rooms in given[1]:
            rooms.clear()
        for thing in given:
            thing.reverse()
            thing.append("more")
        self.assertEqual(told(world), before)
        for thing in given:
            thing.clear()
        self.assertEqual(told(world), before)

    def test_one_list_handed_in_several_times_is_no_bond(self):
        names, rooms = ["b", "a"], [1, 0]
        world = World([names, names], [rooms, rooms], rooms, names)
        world.signs_of(0).append("c")
        world.ways_on(0).append(2)
        names.clear()
        rooms.clear()
        self.assertEqual(told(world), {"many": 2, "signs": [["a", "b"]] * 2, "ways": [[0, 1]] * 2,
                                       "starts": [0, 1], "fair": ["b", "a"]})

    def test_each_list_that_is_told_is_a_new_one(self):
        world = World(*lists())
        before = told(world)
        for room in range(world.many()):
            self.assertIsNot(world.signs_of(room), world.signs_of(room))
            self.assertIsNot(world.ways_on(room), world.ways_on(room))
        self.assertIsNot(world.begins(), world.begins())
        self.assertIsNot(world.fair_signs(), world.fair_signs())
        for room in range(world.many()):
            world.signs_of(room).append("new")
            world.ways_on(room).clear()
        world.begins().reverse()
        world.fair_signs().pop()
        self.assertEqual(told(world), before)

    def test_what_was_told_stays_as_it_is(self):
        world = World(*lists())
        kept = (world.signs_of(0), world.ways_on(0), world.begins(), world.fair_signs())
        world.signs_of(0).clear()
        World([["z"]], [[0]], [0], ["z"])
        told(world)
        self.assertEqual(kept, (["a", "b"], [0, 1, 2], [0, 2], ["c", "a", "b"]))

    def test_another_world_made_beside_changes_none(self):
        one = World(*lists())
        before = told(one)
        other = World([["z"]], [[0]], [0], ["z"])
        self.assertEqual(told(one), before)
        self.assertEqual(told(other), {"many": 1, "signs": [["z"]], "ways": [[0]], "starts": [0], "fair": ["z"]})
        with self.assertRaises(BadWorld):
            World([["y"], []], [[1], []], [1], ["y"])
        self.assertEqual(told(one), before)

    def test_worlds_of_the_same_lists_tell_the_same(self):
        self.assertEqual(told(World(*lists())), told(World(*lists())))


if __name__ == "__main__":
    unittest.main()

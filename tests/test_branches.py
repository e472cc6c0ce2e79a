"""The judge by sets, turns and fair rooms [20]."""

import copy
import unittest

from plainly import (THINGS, as_lists, chain, dice_of, few_wishes, full_world, ring_world, slow_fair_rooms, slow_rooms,
                     some_branch, some_world)
from timecourt.branches import fair_rooms, rooms_by_sets, turns
from timecourt.cores import core_of
from timecourt.errors import BadSentence, NoBranch, TooMany
from timecourt.judges import rooms_of
from timecourt.worlds import World

YES = ("yes",)
NEVER = ("not", YES)
A, B, C = [("sign", name) for name in "abc"]

# From room 0 on to 1 and to the ring 2; 1 leads back, or to the ring 3 4.
SIGNS = [[], ["a"], ["b"], ["a", "b"], ["c"]]
WAYS = [[1, 2], [0, 3], [2], [4], [3]]


def world_with(fair=()):
    return World(SIGNS, WAYS, [0], list(fair))


def no(sentence):
    return ("not", sentence)


def some(*way):
    return ("some", way)


def every(*way):
    return ("all", way)


class RoomsBySets(unittest.TestCase):
    def rooms(self, sentence, wanted, fair=()):
        with self.subTest(sentence=sentence, fair=fair):
            self.assertEqual(rooms_by_sets(world_with(fair), sentence), wanted)
            self.assertEqual(rooms_of(world_with(fair), sentence), wanted)

    def test_no_quantifier(self):
        self.rooms(YES, [0, 1, 2, 3, 4])
        self.rooms(NEVER, [])
        self.rooms(A, [1, 3])
        self.rooms(("sign", "other"), [])
        self.rooms(no(A), [0, 2, 4])
        self.rooms(("and", ()), [0, 1, 2, 3, 4])
        self.rooms(("or", ()), [])
        self.rooms(("and", (A,)), [1, 3])
        self.rooms(("or", (A,)), [1, 3])
        self.rooms(("and", (A, B)), [3])
        self.rooms(("or", (A, B)), [1, 2, 3])
        self.rooms(("and", (A, B, C)), [])
        self.rooms(("or", (A, B, C)), [1, 2, 3, 4])

    def test_some(self):
        self.rooms(some("next", A), [0, 1, 4])
        self.rooms(some("until", A, C), [1, 3, 4])
        self.rooms(some("always", no(C)), [0, 1, 2])
        self.rooms(some("always", B), [2])
        self.rooms(some("ever", C), [0, 1, 3, 4])
        self.rooms(some("ever", A), [0, 1, 3, 4])
        self.rooms(some("within", 0, A, C), [4])
        self.rooms(some("within", 1, A, C), [3, 4])
        self.rooms(some("within", 2, A, C), [1, 3, 4])
        self.rooms(some("within", 2, YES, C), [1, 3, 4])
        self.rooms(some("within", 3, YES, C), [0, 1, 3, 4])
        self.rooms(some("within", 5, NEVER, C), [4])

    def test_all(self):
        self.rooms(every("next", B), [2, 4])
        self.rooms(every("next", ("or", (A, B))), [0, 2, 4])
        self.rooms(every("until", A, C), [3, 4])
        self.rooms(every("until", YES, B), [2, 3, 4])
        self.rooms(every("always", B), [2])
        self.rooms(every("always", ("or", (B, C))), [2, 3, 4])
        self.rooms(every("ever", C), [3, 4])
        self.rooms(every("ever", B), [2, 3, 4])
        self.rooms(every("within", 0, YES, C), [4])
        self.rooms(every("within", 1, YES, C), [3, 4])
        self.rooms(every("within", 1, YES, B), [2, 3, 4])
        self.rooms(every("within", 1, NEVER, B), [2, 3])
        self.rooms(every("within", 1, YES, ("or", (A, B))), [0, 1, 2, 3, 4])

    def test_fair_ways_alone_count(self):
        self.rooms(some("next", A), [0, 1, 4], ["c"])
        self.rooms(some("next", B), [1, 4], ["c"])
        self.rooms(every("next", ("or", (A, C))), [0, 2, 3, 4], ["c"])
        self.rooms(some("always", no(C)), [], ["c"])
        self.rooms(every("ever", C), [0, 1, 2, 3, 4], ["c"])
        self.rooms(some("ever", B), [0, 1, 3, 4], ["c"])
        self.rooms(some("until", YES, ("and", (B, no(A)))), [], ["c"])
        self.rooms(some("within", 0, YES, B), [3], ["c"])
        self.rooms(some("within", 1, YES, B), [1, 3, 4], ["c"])
        self.rooms(every("within", 0, YES, A), [1, 2, 3], ["c"])
        self.rooms(every("until", no(C), C), [0, 1, 2, 3, 4], ["c"])
        self.rooms(every("always", A), [2], ["c"])
        self.rooms(every("ever", B), [0, 1, 2, 3, 4], ["b"])
        self.rooms(some("always", B), [2], ["b"])
        self.rooms(every("ever", C), [0, 1, 2, 3, 4], ["a", "c"])
        self.rooms(every("always", C), [2], ["a", "b", "c"])

    def test_no_fair_way_begins(self):
        for way in (("next", YES), ("next", NEVER), ("until", YES, YES), ("until", A, B), ("always", YES), ("always", NEVER),
                    ("ever", YES), ("ever", NEVER), ("within", 0, A, YES), ("within", 3, A, B)):
            self.rooms(("some", way), [], ["other"])
            self.rooms(("all", way), [0, 1, 2, 3, 4], ["other"])
            self.rooms(no(("all", way)), [], ["a", "other"])

    def test_within_others(self):
        inner = every("ever", C)
        self.rooms(some("next", inner), [1, 3, 4])
        self.rooms(some("until", A, inner), [1, 3, 4])
        self.rooms(every("always", some("ever", A)), [3, 4])
        self.rooms(no(some("ever", every("always", B))), [3, 4])
        self.rooms(some("always", some("next", A)), [0, 1])
        self.rooms(("and", (some("next", A), ("or", (every("next", B), some("next", B))))), [0, 1, 4])
        self.rooms(some("within", 2, no(inner), inner), [0, 1, 3, 4])
        self.rooms(every("within", 2, some("next", YES), ("or", (B, C))), [2, 3, 4])
        self.rooms(every("until", some("ever", C), some("always", B)), [2])

    def test_against_the_judge(self):
        dice = dice_of(201)
        for fair in (0, 1, 2, 3):
            for _ in range(120):
                world = some_world(dice, 6, fair)
                sentence = some_branch(dice, 3)
                try:
                    wanted = rooms_of(world, sentence)
                except TooMany:
                    continue
                self.assertEqual(rooms_by_sets(world, sentence), wanted, (as_lists(world), sentence))

    def test_against_the_slow_reading(self):
        dice = dice_of(202)
        tried = 0
        for _ in range(600):
            world = some_world(dice, 4, dice.randint(0, 3))
            sentence = some_branch(dice, 2)
            if few_wishes(world, core_of(sentence)):
                tried += 1
                self.assertEqual(rooms_by_sets(world, sentence), slow_rooms(world, core_of(sentence)))
        self.assertGreater(tried, 150)

    def test_great_worlds(self):
        dice = dice_of(203)
        for fair in (0, 1, 2, 3):
            for _ in range(10):
                world = some_world(dice, 20, fair)
                for way in (("until", A, B), ("always", no(A)), ("ever", C), ("next", B)):
                    for word in ("all", "some"):
                        self.assertEqual(rooms_by_sets(world, (word, way)), rooms_of(world, (word, way)))

    def test_more_than_the_judge_can_take(self):
        # The judge refuses too many wishes; the judge by sets has none.
        world = full_world([["a"] if room % 2 else [] for room in range(20)])
        sentence = some("within", 5, no(A), A)
        with self.assertRaises(TooMany):
            rooms_of(full_world([[]] * 20), ("some", ("and", (sentence[1], ("within", 5, A, no(A))))))
        self.assertEqual(rooms_by_sets(world, sentence), list(range(20)))

    def test_deep_ones(self):
        world = ring_world(3, [["a"], [], []])
        sentence = A
        for _ in range(160):
            sentence = ("not", ("some", ("next", sentence)))
        # 160 steps are 53 rounds and one step more.
        self.assertEqual(rooms_by_sets(world, sentence), [2])
        self.assertEqual(turns(world, chain("not", 480, YES), sentence), {0: 2, 1: 1, 2: 0})
        twelve = A
        for word in ("always", "ever", "next") * 2:
            twelve = ("all", (word, twelve))
        self.assertEqual(rooms_by_sets(world, twelve), rooms_of(world, twelve))


class Refusals(unittest.TestCase):
    others = (
        ("next", YES), ("until", A, B), ("always", A), ("ever", A), ("within", 1, A, B), ("before", A), ("since", A, B),
        ("once", A), ("sofar", A), ("not", ("next", A)), ("and", (A, ("next", B))), ("or", (("ever", A),)),
        ("some", YES), ("all", YES), ("some", A), ("some", ("some", ("next", A))), ("all", ("all", ("next", A))),
        ("some", ("before", A)), ("some", ("since", A, B)), ("some", ("once", A)), ("some", ("sofar", A)),
        ("all", ("before", A)), ("all", ("since", A, B)), ("all", ("once", A)), ("all", ("sofar", A)),
        ("all", ("and", (A, B))), ("all", ("and", (("next", A), ("next", B)))), ("some", ("or", (("next", A),))),
        ("some", ("and", ())), ("all", ("or", ())), ("some", ("not", ("next", A))), ("all", ("not", A)),
        ("some", ("next", ("next", A))), ("some", ("until", ("next", A), B)), ("all", ("until", A, ("ever", B))),
        ("some", ("always", ("ever", A))), ("all", ("within", 2, A, ("next", B))), ("all", ("within", 2, ("next", A), B)),
        ("and", (YES, ("some", A))), ("not", ("all", ("once", A))), ("some", ("next", ("some", A))),
        ("some", ("ever", ("all", ("before", A)))),
    )
    wrong = THINGS + (
        ("yes", 1), ("sign", "A"), ("sign", ""), ("some",), ("some", ("next",)), ("some", ("next", None)), ("and", [YES]),
        ("within", 6, A, B), ("some", ("within", 6, A, B)), ("some", ("within", True, A, B)), ("some", ("next", "a")),
        ("all", ("until", A)), ("next", ("sign", 1)), ("some", ("before", ("other", A))), ["some", ("next", A)],
    )

    def test_no_branch(self):
        for sentence in self.others:
            with self.subTest(sentence=sentence):
                for asked in ((world_with(), sentence), (world_with(["c"]), sentence)):
                    with self.assertRaises(NoBranch) as caught:
                        rooms_by_sets(*asked)
                    self.assertIs(type(caught.exception), NoBranch)
                for pair in ((sentence, A), (A, sentence), (sentence, sentence)):
                    with self.assertRaises(NoBranch) as caught:
                        turns(world_with(), *pair)
                    self.assertIs(type(caught.exception), NoBranch)

    def test_bad_sentence(self):
        for thing in self.wrong:
            with self.subTest(thing=thing):
                with self.assertRaises(BadSentence) as caught:
                    rooms_by_sets(world_with(), thing)
                self.assertIs(type(caught.exception), BadSentence)
                for pair in ((thing, A), (A, thing), (thing, thing)):
                    with self.assertRaises(BadSentence):
                        turns(world_with(), *pair)

    def test_bad_sentence_goes_ahead(self):
        for thing in self.wrong:
            for pair in ((("next", A), thing), (thing, ("next", A)), (("some", A), thing)):
                with self.subTest(pair=pair), self.assertRaises(BadSentence):
                    turns(world_with(), *pair)
            with self.subTest(thing=thing), self.assertRaises(BadSentence):
                rooms_by_sets(world_with(), ("and", (("next", A), ("some", A), thing)))


class Turns(unittest.TestCase):
    def by_words(self, world, along, goal):
        """The least fixed numbers by the words, found by going over all rooms again and again."""
        numbers = {room: 0 for room in goal}
        for _ in range(world.many()):
            for room in along:
                near = [numbers[further] for further in world.ways_on(room) if further in numbers]
                if near and room not in goal:
                    numbers[room] = min([1 + min(near), numbers.get(room, 100)])
        return numbers

    def test_everywhere_and_nowhere(self):
        for fair in ((), ("c",), ("other",)):
            world = world_with(fair)
            self.assertEqual(turns(world, YES, YES), {room: 0 for room in range(5)})
            self.assertEqual(turns(world, NEVER, YES), {room: 0 for room in range(5)})
            self.assertEqual(turns(world, YES, NEVER), {})
            self.assertEqual(turns(world, NEVER, NEVER), {})
            self.assertEqual(turns(world, NEVER, A), {1: 0, 3: 0})
            self.assertEqual(turns(world, A, A), {1: 0, 3: 0})

    def test_ways_need_not_be_fair(self):
        for fair in ((), ("c",), ("other",), ("a", "b", "c")):
            world = world_with(fair)
            self.assertEqual(turns(world, YES, C), {0: 3, 1: 2, 3: 1, 4: 0})
            self.assertEqual(turns(world, A, C), {1: 2, 3: 1, 4: 0})
            self.assertEqual(turns(world, B, C), {3: 1, 4: 0})
            self.assertEqual(turns(world, YES, ("and", (B, no(A)))), {0: 1, 1: 2, 2: 0})

    def test_sentences_are_judged_by_fair_ways(self):
        self.assertEqual(turns(world_with(), YES, some("always", B)), {0: 1, 1: 2, 2: 0})
        self.assertEqual(turns(world_with(["c"]), YES, some("always", B)), {})
        self.assertEqual(turns(world_with(["c"]), some("ever", C), every("always", NEVER)), {0: 1, 1: 2, 2: 0})
        self.assertEqual(turns(world_with(["c"]), YES, every("always", NEVER)), {0: 1, 1: 2, 2: 0})

    def test_rows_of_rooms(self):
        many = 20
        world = World([["a"]] * 19 + [["b"]], [[room + 1] for room in range(19)] + [[19]], [0], [])
        self.assertEqual(turns(world, A, B), {room: 19 - room for room in range(many)})
        self.assertEqual(turns(world, NEVER, B), {19: 0})
        short_cut = World([["a"]] * 19 + [["b"]], [[room + 1] + ([17] if room == 3 else []) for room in range(19)] + [[0]],
                          [0], [])
        numbers = turns(short_cut, A, B)
        self.assertEqual([numbers[room] for room in range(6)], [6, 5, 4, 3, 15, 14])
        gap = World([["a"]] * 10 + [[]] + [["a"]] * 8 + [["b"]], [[room + 1] for room in range(19)] + [[0]], [0], [])
        self.assertEqual(turns(gap, A, B), {room: 19 - room for room in range(11, 20)})

    def test_by_the_words(self):
        dice = dice_of(204)
        for _ in range(300):
            world = some_world(dice, 8, dice.randint(0, 3))
            one, other = some_branch(dice, 2), some_branch(dice, 2)
            wanted = self.by_words(world, rooms_by_sets(world, one), rooms_by_sets(world, other))
            self.assertEqual(turns(world, one, other), wanted)

    def test_whole_numbers(self):
        numbers = turns(world_with(), YES, C)
        for room, number in numbers.items():
            self.assertIs(type(room), int)
            self.assertIs(type(number), int)


class FairRooms(unittest.TestCase):
    def test_several_rings(self):
        self.assertEqual(fair_rooms(world_with()), [0, 1, 2, 3, 4])
        self.assertEqual(fair_rooms(world_with(["a"])), [0, 1, 3, 4])
        self.assertEqual(fair_rooms(world_with(["b"])), [0, 1, 2, 3, 4])
        self.assertEqual(fair_rooms(world_with(["c"])), [0, 1, 3, 4])
        self.assertEqual(fair_rooms(world_with(["a", "b"])), [0, 1, 3, 4])
        self.assertEqual(fair_rooms(world_with(["c", "b", "a"])), [0, 1, 3, 4])
        self.assertEqual(fair_rooms(world_with(["other"])), [])
        self.assertEqual(fair_rooms(world_with(["a", "other"])), [])
        # Two rings, each with one of the fair signs: no ring has both.
        world = World([["a"], ["b"], []], [[0, 1], [1], [0]], [0], ["a", "b"])
        self.assertEqual(fair_rooms(world), [])
        # A sign that is met once and never again.
        world = World([["a"], []], [[1], [1]], [0], ["a"])
        self.assertEqual(fair_rooms(world), [])

    def test_one_room(self):
        self.assertEqual(fair_rooms(World([[]], [[0]], [0], [])), [0])
        self.assertEqual(fair_rooms(World([["a"]], [[0]], [0], ["a"])), [0])
        self.assertEqual(fair_rooms(World([["a"]], [[0]], [0], ["b"])), [])

    def test_by_the_words(self):
        dice = dice_of(205)
        for _ in range(200):
            world = some_world(dice, 8, dice.randint(0, 3))
            self.assertEqual(fair_rooms(world), slow_fair_rooms(world))
        for _ in range(30):
            world = some_world(dice, 20, dice.randint(0, 3))
            self.assertEqual(fair_rooms(world), slow_fair_rooms(world))
            self.assertEqual(fair_rooms(world), rooms_of(world, ("some", YES)))


class Own(unittest.TestCase):
    def test_nothing_is_changed_and_all_is_new(self):
        for fair in ((), ("c",), ("a", "b", "c")):
            world = world_with(fair)
            sentence = every("until", some("next", A), ("or", (B, C)))
            asks = (lambda: rooms_by_sets(world, sentence), lambda: turns(world, YES, sentence), lambda: fair_rooms(world))
            before = as_lists(world)
            for ask in asks:
                told = ask()
                kept = copy.deepcopy(told)
                told.clear()
                again = ask()
                self.assertEqual(again, kept)
                self.assertIsNot(ask(), again)
            self.assertEqual(as_lists(world), before)
            self.assertEqual(sentence, every("until", some("next", A), ("or", (B, C))))


if __name__ == "__main__":
    unittest.main()

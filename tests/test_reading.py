"""The plain reading of cores on runs [5, 9]."""

import copy
import unittest

from plainly import chain, dice_of, full_world, ring_world, slowly, some_run, some_sentence, some_world, somes_in
from timecourt.cores import core_of
from timecourt.reading import read, read_along
from timecourt.runs import is_run
from timecourt.worlds import World

YES = ("yes",)
A, B, C = [("sign", name) for name in "abc"]

# Any room may follow any: a run is any row of rooms.
FREE = full_world([["a"], ["b"], [], ["a", "b"]])


def truths(text):
    return [letter == "1" for letter in text]


class ByHand(unittest.TestCase):
    def along(self, run, sentence, text, sets=(), world=FREE):
        """Read along as the text tells, a 1 for each place where it is so."""
        with self.subTest(run=run, sentence=sentence):
            self.assertTrue(is_run(world, run))
            core = core_of(sentence)
            told = read_along(world, run, core, list(sets), len(text))
            self.assertEqual(told, truths(text))
            self.assertTrue(all(type(truth) is bool for truth in told))
            self.assertIs(read(world, run, core, list(sets)), truths(text)[0])

    def test_yes_and_signs(self):
        run = ([0, 1], [2, 3])
        self.along(run, YES, "11111111")
        self.along(run, A, "10010101")
        self.along(run, B, "01010101")
        self.along(run, ("sign", "zz"), "00000000")
        self.along(([], [2]), A, "000")

    def test_not_and_or(self):
        run = ([0, 1], [2, 3])
        self.along(run, ("not", A), "01101010")
        self.along(run, ("not", ("not", A)), "10010101")
        self.along(run, ("and", (A, B)), "00010101")
        self.along(run, ("or", (A, B)), "11010101")
        self.along(run, ("and", ()), "1111")
        self.along(run, ("or", ()), "0000")
        self.along(run, ("or", (A,)), "1001")
        self.along(run, ("or", (("not", A), ("not", B), YES)), "111111")

    def test_next(self):
        run = ([0, 1], [2, 3])
        self.along(run, ("next", A), "00101010")
        self.along(run, ("next", ("next", A)), "01010101")
        self.along(([], [0]), ("next", A), "11")
        self.along(([1], [0]), ("next", A), "11")
        self.along(([0], [1]), ("next", A), "00")
        # Behind the ring's last room its first one comes, not the way's.
        self.along(([0], [1, 2]), ("next", A), "0000000")

    def test_until(self):
        self.along(([0, 0, 1], [2]), ("until", A, B), "1110000")
        self.along(([0, 2, 0, 1], [2]), ("until", A, B), "0011000")
        self.along(([0, 0], [0]), ("until", A, B), "00000")
        self.along(([2], [0, 0, 1]), ("until", A, B), "0111111")
        self.along(([], [0, 1, 2]), ("until", A, B), "110110110")
        # Through the end of the ring to its first room.
        self.along(([], [1, 2, 0]), ("until", A, B), "101101101")
        self.along(([], [3, 0]), ("until", B, YES), "1111")
        self.along(([], [3, 0]), ("until", YES, ("not", YES)), "0000")
        # v now, where w is not.
        self.along(([], [1]), ("until", A, B), "11")

    def test_until_needs_w_only_ahead_of_v(self):
        self.along(([0, 0, 1, 2], [2]), ("until", A, B), "11100")
        self.along(([0, 2, 1], [2]), ("until", A, B), "00100")

    def test_until_unfolded_by_hand(self):
        dice = dice_of(1)
        for _ in range(60):
            run = ([dice.randrange(4) for _ in range(dice.randrange(4))], [dice.randrange(4) for _ in range(dice.randint(1, 4))])
            until = read_along(FREE, run, ("until", A, B), [], 30)
            first, second = (read_along(FREE, run, one, [], 30) for one in (A, B))
            for at in range(29):
                self.assertEqual(until[at], second[at] or (first[at] and until[at + 1]))
                if until[at]:
                    self.assertTrue(any(second[at:at + 8]) or at > 20)

    def test_since_unfolded_by_hand(self):
        dice = dice_of(2)
        for _ in range(60):
            run = ([dice.randrange(4) for _ in range(dice.randrange(4))], [dice.randrange(4) for _ in range(dice.randint(1, 4))])
            since = read_along(FREE, run, ("since", A, B), [], 30)
            first, second = (read_along(FREE, run, one, [], 30) for one in (A, B))
            for at in range(30):
                self.assertEqual(since[at], second[at] or (at > 0 and first[at] and since[at - 1]))

    def test_always_and_ever(self):
        self.along(([0, 1], [0]), ("always", A), "00111")
        self.along(([0, 1], [0]), ("ever", B), "11000")
        self.along(([0], [0, 1]), ("always", A), "00000")
        self.along(([], [2, 1]), ("ever", B), "11111")
        self.along(([0], [2, 1]), ("always", ("ever", B)), "11111")
        self.along(([0, 1], [2, 0]), ("ever", ("always", ("not", B))), "11111")
        self.along(([0, 1], [2, 0]), ("always", ("not", B)), "00111")

    def test_within(self):
        run = ([0, 0, 0, 0, 0, 0, 1], [2])
        for turns, text in enumerate(("00000010", "00000110", "00001110", "00011110", "00111110", "01111110")):
            self.along(run, ("within", turns, A, B), text)
        self.along(([2, 0, 1], [2]), ("within", 2, A, B), "0110")
        self.along(([0, 1, 0, 0, 1], [2]), ("within", 1, A, B), "1101100")

    def test_before(self):
        run = ([0, 1], [2, 3])
        self.along(run, ("before", A), "01001010")
        self.along(run, ("before", YES), "01111111")
        self.along(run, ("not", ("before", YES)), "10000000")
        self.along(run, ("before", ("before", A)), "00100101")
        self.along(run, ("before", ("not", ("before", YES))), "01000000")
        # The ring's first room comes behind the way's last one, and later behind the ring's.
        self.along(([1], [2, 0]), ("before", A), "0001010")
        self.along(([0], [2, 1]), ("before", A), "0100000")

    def test_nothing_is_ahead_of_the_first_place(self):
        for run in (([], [0]), ([0], [0]), ([0, 0, 0], [0, 0]), ([], [0, 1, 2, 3])):
            self.along(run, ("before", YES), "0111")
            self.along(run, ("since", YES, ("before", YES)), "0111")
            self.along(run, ("once", ("not", ("before", YES))), "1111")
            self.along(run, ("next", ("before", YES)), "1111")
        self.along(([], [0]), ("since", A, B), "0000")
        self.along(([], [3]), ("since", A, B), "1111")

    def test_since(self):
        self.along(([1, 0, 0, 2], [0]), ("since", A, B), "1110000")
        self.along(([0, 1, 0, 2, 1], [0]), ("since", A, B), "01101111")
        self.along(([], [0, 0, 1, 0]), ("since", A, B), "0011111111")
        # What was in the way may be held all along the ring, or for its first round alone.
        self.along(([1], [0, 0]), ("since", A, B), "1111111")
        self.along(([1], [0, 2]), ("since", A, B), "1100000")
        self.along(([2, 1, 0], [0, 0, 2, 0]), ("since", A, B), "01111000000")

    def test_since_needs_w_only_behind_v(self):
        self.along(([2, 1, 0], [0]), ("since", A, B), "01111")
        self.along(([1, 2], [0]), ("since", A, B), "10000")

    def test_once_and_sofar(self):
        self.along(([0, 0, 1], [0]), ("once", B), "001111")
        self.along(([], [0, 0, 1]), ("once", B), "0011111")
        self.along(([0, 0, 1], [0]), ("sofar", A), "110000")
        self.along(([], [0, 3]), ("sofar", A), "11111")
        self.along(([], [0, 3]), ("sofar", B), "00000")
        self.along(([], [0, 3, 2]), ("sofar", A), "110000")

    def test_back_and_ahead(self):
        self.along(([0, 1], [2]), ("ever", ("and", (("not", A), ("once", A)))), "11111")
        self.along(([0, 1], [2]), ("ever", ("and", (B, ("before", A)))), "11000")
        self.along(([], [2, 0]), ("always", ("or", (("not", A), ("before", ("not", A))))), "1111")
        self.along(([], [0, 2]), ("always", ("or", (("not", A), ("before", ("not", A))))), "01111")
        self.along(([0], [2, 1]), ("since", YES, ("next", B)), "0111111")

    def test_places_of_the_ring_that_come_to_be_alike_late(self):
        # Each before of a once takes one more round.
        run = ([], [0, 2])
        sentence = A
        for rounds in range(1, 6):
            sentence = ("and", (A, ("before", ("before", sentence))))
            self.along(run, sentence, "00" * rounds + "10" * 8)

    def test_somes_by_their_sets(self):
        some, other = ("some", ("next", A)), ("some", B)
        run = ([0, 1], [2, 3])
        self.along(run, some, "10101010", [(some, [0, 2])])
        self.along(run, some, "00000000", [(some, [])])
        self.along(run, ("not", some), "00111", [(some, [0, 1])])
        self.along(run, ("next", some), "10000", [(some, [1])])
        self.along(run, ("all", A), "1100", [(("some", ("not", A)), [2, 3])])
        both = ("and", (some, ("not", other)))
        for sets in ([(some, [0, 1, 2]), (other, [1, 3])], [(other, [3, 1]), (some, [2, 1, 0])]):
            self.along(run, both, "101010", sets)

    def test_what_is_in_a_some_is_not_read(self):
        # By its inner part the outer some would be read otherwise.
        inner = ("some", A)
        outer = ("some", ("and", (inner, ("next", inner))))
        self.along(([0], [1]), ("next", outer), "111", [(outer, [1])])
        self.along(([0], [1]), ("until", inner, outer), "1111", [(outer, [1]), (inner, [0])])

    def test_more_sets_than_are_asked(self):
        some = ("some", B)
        more = [(("some", A), [0, 1, 2, 3]), (some, [3]), (("some", ("some", B)), [0]), (("some", chain("not", 490)), [2])]
        self.along(([0, 1], [2, 3]), some, "000101", more)
        self.along(([0, 1], [2, 3]), some, "000101", more[::-1])
        self.along(([0, 1], [2, 3]), A, "100101", more)

    def test_two_lists_of_sets_and_two_worlds_by_turns(self):
        some = ("some", A)
        other = full_world([["b"], ["a"], [], ["a"]])
        for _ in range(2):
            self.along(([0], [1]), some, "100", [(some, [0])])
            self.along(([0], [1]), some, "011", [(some, [1])])
            self.along(([0], [1]), A, "100")
            self.along(([0], [1]), A, "011", world=other)


class Alike(unittest.TestCase):
    """The same endless way, told otherwise."""

    def test_read_alike(self):
        dice = dice_of(3)
        for _ in range(150):
            world = some_world(dice, 5)
            way, ring = some_run(dice, world)
            core = core_of(some_sentence(dice, 4))
            wanted = read_along(world, (way, ring), core, [], 40)
            for run in ((way, ring * 2), (way, ring * 3), (way + ring, ring), (way + ring * 2, ring),
                        (way + ring[:1], ring[1:] + ring[:1]), (way + ring + ring[:1], (ring[1:] + ring[:1]) * 2)):
                self.assertTrue(is_run(world, run))
                self.assertEqual(read_along(world, run, core, [], 40), wanted)
                self.assertEqual(read(world, run, core, []), wanted[0])

    def test_by_the_very_words(self):
        dice = dice_of(4)
        for _ in range(400):
            world = some_world(dice, 5)
            run = some_run(dice, world)
            sentence = some_sentence(dice, 3)
            core = core_of(sentence)
            many = len(run[0]) + 3 * len(run[1])
            wanted = slowly(world, run, sentence, [], many)
            self.assertEqual(read_along(world, run, core, [], many), wanted, (run, sentence))
            self.assertIs(read(world, run, core, []), wanted[0])

    def test_by_the_very_words_with_sets(self):
        dice = dice_of(5)
        words = ("not", "and", "until", "since", "next", "before", "some")
        for _ in range(200):
            world = some_world(dice, 4)
            run = some_run(dice, world)
            core = core_of(some_sentence(dice, 4, words))
            sets = [(some, [room for room in range(world.many()) if dice.randrange(2)]) for some in somes_in(core)]
            dice.shuffle(sets)
            wanted = slowly(world, run, core, sets, 15)
            self.assertEqual(read_along(world, run, core, sets, 15), wanted, (run, core))

    def test_worlds_of_one_room_and_of_twenty(self):
        one = World([["a"]], [[0]], [0], [])
        self.assertEqual(read_along(one, ([], [0]), ("until", B, A), [], 3), [True] * 3)
        self.assertEqual(read_along(one, ([0, 0], [0, 0, 0]), ("before", A), [], 5), [False] + [True] * 4)
        twenty = ring_world(20, [["a"] if room == 19 else ["b"] if room < 19 else [] for room in range(20)])
        rooms = list(range(20))
        self.assertEqual(read_along(twenty, ([], rooms), ("until", B, A), [], 400), [True] * 400)
        self.assertEqual(read_along(twenty, ([], rooms), ("next", A), [], 400), [at % 20 == 18 for at in range(400)])
        self.assertEqual(read_along(twenty, (rooms[7:], rooms), ("since", B, A), [], 40), [at >= 12 for at in range(40)])


class FarOn(unittest.TestCase):
    def test_how_many_places(self):
        run = ([0, 1], [2, 3])
        self.assertEqual(read_along(FREE, run, A, [], 0), [])
        self.assertEqual(read_along(FREE, run, A, [], 1), [True])
        for many in (2, 3, 4, 5, 399, 400, 401):
            told = read_along(FREE, run, A, [], many)
            self.assertEqual(told, [at == 0 or (at > 2 and at % 2 == 1) for at in range(many)])

    def test_four_hundred_places(self):
        run = ([0], [1, 2, 2])
        self.assertEqual(read_along(FREE, run, ("before", B), [], 400), [at % 3 == 2 for at in range(400)])
        self.assertEqual(read_along(FREE, run, ("next", B), [], 400), [at % 3 == 0 for at in range(400)])
        self.assertEqual(read_along(FREE, run, ("since", ("not", B), A), [], 400), [True] + [False] * 399)

    def test_long_ways_and_rings(self):
        way, ring = [0] * 399 + [1], [2] * 299 + [3]
        self.assertEqual(read_along(FREE, (way, ring), ("until", A, B), [], 401), [True] * 400 + [False])
        self.assertEqual(read_along(FREE, (way, ring), ("until", ("not", B), ("and", (A, B))), [], 402),
                         [False] * 400 + [True] * 2)
        self.assertTrue(read(FREE, (way, ring), chain("next", 399, B), []))
        self.assertFalse(read(FREE, (way, ring), chain("next", 398, B), []))

    def test_cores_that_are_deep_by_themselves(self):
        run = ([0, 1], [2, 3, 2])
        rows = read_along(FREE, run, A, [], 400 + 499)
        self.assertEqual(read_along(FREE, run, chain("not", 499), [], 400), [not truth for truth in rows[:400]])
        self.assertEqual(read_along(FREE, run, chain("next", 499), [], 400), rows[499:])
        self.assertEqual(read_along(FREE, run, chain("before", 300), [], 400), [False] * 300 + rows[:100])
        deep = chain("some", 499)
        self.assertEqual(read_along(FREE, run, deep, [(deep, [1])], 5), [False, True, False, False, False])
        # All but one word the same, all the way down.
        near = chain("some", 499, B)
        self.assertEqual(read_along(FREE, run, deep, [(near, [0]), (deep, [1])], 3), [False, True, False])

    def test_deep_looks_back(self):
        run = ([3, 0, 1], [1, 3, 2, 0, 1])
        holds = read_along(FREE, run, B, [], 500)
        core, wanted = A, read_along(FREE, run, A, [], 500)
        for _ in range(90):
            core = ("since", B, ("not", ("before", core)))
            ahead, held = [False] + wanted, False
            for at in range(500):
                held = not ahead[at] or (holds[at] and held)
                wanted[at] = held
        self.assertEqual(read_along(FREE, run, core, [], 400), wanted[:400])

    def test_a_core_of_nearly_two_thousand(self):
        great = ("within", 5, ("within", 5, ("within", 1, C, A), B), ("within", 5, B, ("within", 4, ("not", C), ("not", A))))
        dice = dice_of(6)
        for _ in range(5):
            world = some_world(dice, 4)
            run = some_run(dice, world)
            self.assertEqual(read_along(world, run, core_of(great), [], 12), slowly(world, run, great, [], 12))

    def test_twelve_deep(self):
        dice = dice_of(7)
        words = ("not", "next", "before", "always", "ever", "once", "sofar")
        for _ in range(60):
            sentence = B
            for _ in range(12):
                sentence = (dice.choice(words), sentence)
            world = some_world(dice, 4)
            run = some_run(dice, world)
            self.assertEqual(read_along(world, run, core_of(sentence), [], 12), slowly(world, run, sentence, [], 12))


class Untouched(unittest.TestCase):
    def test_nothing_is_changed(self):
        some = ("some", A)
        core = ("and", (("until", some, B), ("since", A, some)))
        run, sets = ([0, 1], [2, 3]), [(some, [3, 1]), (("some", B), [])]
        run_before, sets_before = copy.deepcopy((run, sets))
        read(FREE, run, core, sets)
        read_along(FREE, run, core, sets, 50)
        self.assertEqual((run, sets), (run_before, sets_before))

    def test_told_anew(self):
        run = ([0, 1], [2, 3])
        for core in (A, ("next", A), ("and", (A, YES)), YES):
            first = read_along(FREE, run, core, [], 6)
            kept = list(first)
            first.clear()
            self.assertEqual(read_along(FREE, run, core, [], 6), kept)

    def test_what_the_asker_changes_later(self):
        some = ("some", A)
        rooms, way = [0], [0]
        run, sets = (way, [1]), [(some, rooms)]
        first = read_along(FREE, run, some, sets, 3)
        rooms.append(1)
        way.append(2)
        self.assertEqual(first, [True, False, False])
        self.assertEqual(read_along(FREE, run, some, sets, 3), [True, False, True])


if __name__ == "__main__":
    unittest.main()

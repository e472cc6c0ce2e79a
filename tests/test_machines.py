"""Machines side by side [25]."""

import copy
import itertools
import unittest

from plainly import THINGS, as_lists, dice_of
from timecourt.errors import BadMachine, BadWorld, TooMany
from timecourt.judges import is_kept
from timecourt.machines import Machine, beside
from timecourt.worlds import World


def line(many, word, name=None):
    """A machine that goes from room to room by a word, and stays in the last one."""
    signs = [[] for _ in range(many - 1)] + [[name] if name else []]
    return Machine(signs, [(room, word, room + 1) for room in range(many - 1)], 0)


def loop(many, word):
    """A machine that goes round its rooms by a word."""
    return Machine([[] for _ in range(many)], [(room, word, (room + 1) % many) for room in range(many)], 0)


def by_words(lists, fair):
    """All that the point tells, of machines as tuples (signs, moves, start, words)."""
    known = [{word for _, word, _ in moves} | set(words or []) for _, moves, _, words in lists]
    places, ways = [tuple(start for _, _, start, _ in lists)], []
    for place in places:
        on = []
        for word in sorted(set().union(*known)):
            choices = []
            for (_, moves, _, _), mine, room in zip(lists, known, place):
                choices.append([to for at, by, to in moves if (at, by) == (room, word)] if word in mine else [room])
            for row in itertools.product(*choices):
                if row not in places:
                    places.append(row)
                if row not in on:
                    on.append(row)
        ways.append(sorted(places.index(row) for row in on or [place]))
        if len(places) > 20:
            raise TooMany
    signs = [sorted({name for (names, _, _, _), room in zip(lists, place) for name in names[room]}) for place in places]
    return [signs, ways, [0], list(fair)], places


class Beside(unittest.TestCase):
    def told(self, machines, fair=()):
        world, places = beside(machines, list(fair))
        self.assertIsInstance(world, World)
        return as_lists(world), places

    def test_one_machine(self):
        one = Machine([["a"], ["b"], ["c"]], [(0, "go", 1), (1, "go", 0), (1, "on", 2)], 0)
        self.assertEqual(self.told([one]), ([[["a"], ["b"], ["c"]], [[1], [0, 2], [2]], [0], []], [(0,), (1,), (2,)]))

    def test_a_place_where_no_word_can_be_taken(self):
        self.assertEqual(self.told([Machine([["a"]], [], 0)]), ([[["a"]], [[0]], [0], []], [(0,)]))
        self.assertEqual(self.told([Machine([["a"], []], [], 1)]), ([[[]], [[0]], [0], []], [(1,)]))
        self.assertEqual(self.told([line(2, "go")]), ([[[], []], [[1], [1]], [0], []], [(0,), (1,)]))
        # Both know the word, and the second one can't take it at its start.
        other = Machine([[], []], [(1, "go", 0)], 0)
        self.assertEqual(self.told([line(2, "go"), other])[1], [(0, 0)])

    def test_words_that_one_alone_knows(self):
        world, places = self.told([loop(2, "a"), loop(2, "b")])
        self.assertEqual(places, [(0, 0), (1, 0), (0, 1), (1, 1)])
        self.assertEqual(world[1], [[1, 2], [0, 3], [0, 3], [1, 2]])

    def test_words_are_taken_sorted(self):
        self.assertEqual(self.told([loop(2, "b"), loop(2, "a")])[1], [(0, 0), (0, 1), (1, 0), (1, 1)])
        one = Machine([[], [], []], [(0, "z", 1), (0, "y", 2)], 0)
        self.assertEqual(self.told([one])[1], [(0,), (2,), (1,)])
        one = Machine([[], [], []], [(0, "ab", 1), (0, "aa", 2), (1, "b", 0)], 0)
        self.assertEqual(self.told([one])[1], [(0,), (2,), (1,)])

    def test_words_that_several_know(self):
        self.assertEqual(self.told([loop(2, "a"), loop(2, "a")])[1], [(0, 0), (1, 1)])
        self.assertEqual(self.told([loop(2, "a"), loop(3, "a")])[1], [(0, 0), (1, 1), (0, 2), (1, 0), (0, 1), (1, 2)])
        self.assertEqual(self.told([loop(2, "a"), loop(2, "b"), loop(2, "a")])[1], [(0, 0, 0), (1, 0, 1), (0, 1, 0), (1, 1, 1)])

    def test_rows_of_moves(self):
        # The moves as they stand, the last machine's changing fastest.
        one = Machine([[], [], []], [(0, "go", 2), (0, "go", 1)], 0)
        other = Machine([[], [], []], [(0, "go", 1), (0, "go", 2)], 0)
        world, places = self.told([one, other])
        self.assertEqual(places, [(0, 0), (2, 1), (2, 2), (1, 1), (1, 2)])
        self.assertEqual(world[1], [[1, 2, 3, 4], [1], [2], [3], [4]])
        third = Machine([[], []], [(0, "go", 0), (0, "go", 1)], 0)
        self.assertEqual(self.told([one, third, other])[1],
                         [(0, 0, 0), (2, 0, 1), (2, 0, 2), (2, 1, 1), (2, 1, 2), (1, 0, 1), (1, 0, 2), (1, 1, 1), (1, 1, 2)])

    def test_moves_twice(self):
        moves = [(0, "go", 1), (0, "go", 1), (0, "go", 0), (1, "go", 0), (0, "go", 1)]
        twice = Machine([["a"], ["b"]], moves, 0)
        self.assertEqual(self.told([twice]), ([[["a"], ["b"]], [[0, 1], [0]], [0], []], [(0,), (1,)]))
        many = Machine([["a"], ["b"]], moves * 50, 0)
        self.assertEqual(self.told([many] * 4), self.told([twice] * 4))

    def test_further_words(self):
        free = loop(2, "a")
        held = Machine([["x"]], [], 0, ["a"])
        self.assertEqual(self.told([free, held]), ([[["x"]], [[0]], [0], []], [(0, 0)]))
        self.assertEqual(self.told([free, Machine([["x"]], [], 0, [])])[1], [(0, 0), (1, 0)])
        self.assertEqual(self.told([free, Machine([["x"]], [], 0, None)])[1], [(0, 0), (1, 0)])
        # A further word that is one of a move, too, and one that none has moves by.
        self.assertEqual(self.told([Machine([[], []], [(0, "a", 1)], 0, ["a", "b"]), free])[1], [(0, 0), (1, 1)])

    def test_signs_of_all_rooms(self):
        one = Machine([["b", "a"], ["c"]], [(0, "go", 1)], 0)
        other = Machine([["c", "a"], ["d"]], [(0, "on", 1)], 0)
        world, places = self.told([one, other], ["d", "a"])
        self.assertEqual(places, [(0, 0), (1, 0), (0, 1), (1, 1)])
        self.assertEqual(world, [[["a", "b", "c"], ["a", "c"], ["a", "b", "d"], ["c", "d"]], [[1, 2], [3], [3], [3]], [0], ["d", "a"]])

    def test_the_start(self):
        self.assertEqual(self.told([Machine([[], [], []], [(2, "go", 1), (1, "go", 2)], 2)])[1], [(2,), (1,)])

    def test_by_the_words(self):
        dice = dice_of(251)
        told = {"world": 0, "many": 0}
        for _ in range(500):
            lists = []
            alone = dice.randrange(2)
            for number in range(dice.randint(1, 4)):
                many = dice.randint(1, 6)
                words = ["a", "b", "go", "on"] if not alone else ["a", "cdef"[number], "wxyz"[number]]
                signs = [dice.sample(["p", "q", "r"], dice.randint(0, 2)) for _ in range(many)]
                moves = [(dice.randrange(many), dice.choice(words), dice.randrange(many)) for _ in range(dice.randint(0, 8 + 12 * alone))]
                further = dice.choice([None, [], dice.sample(words, 2)])
                lists.append((signs, moves, dice.randrange(many), further))
            machines = [Machine(*one) for one in lists]
            fair = dice.sample(["p", "q", "r"], dice.randint(0, 3))
            try:
                wanted = by_words(lists, fair)
            except TooMany:
                told["many"] += 1
                with self.assertRaises(TooMany):
                    beside(machines, fair)
                continue
            told["world"] += 1
            self.assertEqual(self.told(machines, fair), wanted)
        self.assertGreater(min(told.values()), 20)

    def test_four_machines_of_six_rooms(self):
        world, places = self.told([loop(6, "go")] * 4)
        self.assertEqual(places, [(room,) * 4 for room in range(6)])

    def test_a_world_like_others(self):
        # One asks and is served; the judge knows that it is served again and again.
        asker = Machine([["idle"], ["asks"]], [(0, "ask", 1), (1, "serve", 0)], 0)
        server = Machine([[]], [(0, "serve", 0), (0, "wait", 0)], 0)
        world = beside([asker, server], [])[0]
        fair = beside([asker, server], ["idle", "asks"])[0]
        sentence = ("all", ("always", ("or", (("not", ("sign", "asks")), ("ever", ("sign", "idle"))))))
        self.assertFalse(is_kept(world, sentence))
        self.assertTrue(is_kept(fair, sentence))


class Refused(unittest.TestCase):
    def refused(self, error, ask, *things):
        with self.subTest(things=things):
            with self.assertRaises(error) as caught:
                ask(*things)
            self.assertIs(type(caught.exception), error)

    def test_rooms(self):
        Machine([[]] * 6, [], 5)
        for signs in THINGS + ([], [[]] * 7, [["a", "a"]], [["a"], ["b", "c", "b"]], [["A"]], [[""]], [["abcdefghi"]], [["a"], None],
                               [("a",)], ["a"], [[1]], [[None]], [[True]], ([],), ([], []), {0: []}, [[["a"]]]):
            self.refused(BadMachine, Machine, signs, [], 0)

    def test_moves(self):
        Machine([[], []], [(1, "abcdefgh", 0)] * 3, 0)
        for moves in THINGS + (((0, "a", 0),), {(0, "a", 0): True}):
            if moves != []:
                self.refused(BadMachine, Machine, [[], []], moves, 0)
        for move in THINGS + ((0, "a"), (0, "a", 1, 1), [0, "a", 1], (0, "a", 2), (2, "a", 0), (-1, "a", 0), (0, "a", -1), (True, "a", 0),
                              (0, "a", False), ("0", "a", 0), (0, "a", "0"), (0, "", 0), (0, "A", 0), (0, "abcdefghi", 0), (0, 1, 0),
                              (0, None, 0), (0, ["a"], 0), ("a", 0, 0), (0, 0, "a"), (None, "a", 0), ([0], "a", 0), (0, b"a", 0)):
            self.refused(BadMachine, Machine, [[], []], [(0, "a", 1), move], 0)

    def test_starts(self):
        for start in THINGS + (2, -1, True, False, "0", [0], (0,)):
            if start not in (0, 1) or isinstance(start, bool):
                self.refused(BadMachine, Machine, [[], []], [], start)

    def test_further_words(self):
        Machine([[]], [], 0, ["b", "a"])
        for words in THINGS + (["a", "a"], ["a", "b", "a"], ["A"], [""], ["abcdefghi"], ["a", None], [1], [True], ("a",), "a", {"a": 1},
                               [["a"]], ["a b"]):
            if words not in (None, [], ["yes"]):
                self.refused(BadMachine, Machine, [[]], [], 0, words)

    def test_how_many_machines(self):
        one = Machine([[]], [], 0)
        self.refused(BadWorld, beside, [], [])
        self.refused(BadWorld, beside, [one] * 5, [])
        for many in (1, 2, 3, 4):
            self.assertEqual(beside([one] * many, [])[1], [(0,) * many])
        # Ahead of too many places, and of wrong fair signs.
        self.refused(BadWorld, beside, [loop(6, "a"), loop(6, "b"), loop(6, "c"), loop(6, "d"), one], [])

    def twenty(self, further):
        """Two machines with eighteen places, and some more: one goes its last step together with the other."""
        one = Machine([[]] * 6, [(room, "a", room + 1) for room in range(5)] + [(room, "both", room) for room in further], 0)
        return [one, Machine([[]] * 4, [(0, "b", 1), (1, "b", 2), (2, "both", 3)], 0)]

    def test_twenty_places_and_twenty_one(self):
        self.assertEqual(len(beside([loop(4, "a"), loop(5, "b")], [])[1]), 20)
        self.assertEqual(len(beside(self.twenty([4, 5]), [])[1]), 20)
        self.refused(TooMany, beside, self.twenty([3, 4, 5]), [])
        self.refused(TooMany, beside, [loop(6, "a"), loop(4, "b")], [])
        self.refused(TooMany, beside, [loop(6, word) for word in "abcd"], [])

    def test_fair_signs(self):
        one = Machine([["a"]], [], 0)
        for fair in (["a", "a"], ["a", "b", "c", "d"], ["A"], [""], [1], [None], None, "a", ("a",), {"a": 1}, [["a"]], 0, True):
            self.refused(BadWorld, beside, [one], fair)
            self.refused(BadWorld, beside, [one] * 5, fair)
            # Too many places go ahead.
            self.refused(TooMany, beside, self.twenty([3, 4, 5]), fair)
        for fair in ([], ["b"], ["c", "b", "a"]):
            self.assertEqual(beside([one], fair)[0].fair_signs(), fair)


class Own(unittest.TestCase):
    def test_what_is_changed_later_changes_nothing(self):
        signs, moves, words = [["a"], ["b"]], [(0, "go", 1)], ["x"]
        fair = ["a"]
        one = Machine(signs, moves, 0, words)
        kept = copy.deepcopy((signs, moves, words))
        machines = [one, Machine([[], []], [(0, "x", 1)], 0)]
        first = beside(machines, fair)
        told = as_lists(first[0]), list(first[1])
        self.assertEqual((signs, moves, words), kept)
        self.assertEqual((len(machines), fair), (2, ["a"]))
        signs[0].append("c")
        signs.append([])
        moves.append((1, "go", 0))
        moves[0] = None
        words.clear()
        fair.append("b")
        self.assertEqual(as_lists(first[0]), told[0])
        first[1].clear()
        again = beside(machines, ["a"])
        self.assertEqual((as_lists(again[0]), again[1]), told)

    def test_words_are_none_by_default(self):
        self.assertEqual(beside([Machine([[], []], [(0, "a", 1)], 0)], [])[1], beside([Machine([[], []], [(0, "a", 1)], 0, None)], [])[1])


if __name__ == "__main__":
    unittest.main()

"""Shortest ways and rings [23, 3]."""

import copy
import itertools
import unittest

from plainly import (NAMES, THINGS, SlowWishes, all_bits, as_lists, chain, closes_by_words, dice_of, has_full_loop, slowly,
                     some_sentence)
from timecourt.cores import core_of
from timecourt.errors import BadSentence, NoAhead, TooMany
from timecourt.ranks import closes
from timecourt.reading import read
from timecourt.runs import is_run
from timecourt.shortest import shortest, world_of_all
from timecourt.wishes import beginnings, leads_to, marks_of, wishes_of
from timecourt.worlds import World

YES = ("yes",)
NEVER = ("not", YES)
A, B, C = [("sign", name) for name in "abc"]
AHEAD = ("not", "next", "until", "always", "ever", "and", "or", "within")


def no(w):
    return ("not", w)


def both(*inner):
    return ("and", inner)


def always(w):
    return ("always", w)


def ever(w):
    return ("ever", w)


class WorldOfAll(unittest.TestCase):
    def test_worlds(self):
        self.assertEqual(as_lists(world_of_all([])), [[[]], [[0]], [0], []])
        self.assertEqual(as_lists(world_of_all(["b"])), [[[], ["b"]], [[0, 1]] * 2, [0, 1], []])
        self.assertEqual(as_lists(world_of_all(["a", "c"])), [[[], ["a"], ["c"], ["a", "c"]], [[0, 1, 2, 3]] * 4, [0, 1, 2, 3], []])
        three = [[], ["a"], ["b"], ["a", "b"], ["c"], ["a", "c"], ["b", "c"], ["a", "b", "c"]]
        self.assertEqual(as_lists(world_of_all(NAMES)), [three, [list(range(8))] * 8, list(range(8)), []])
        self.assertIsInstance(world_of_all([]), World)

    def test_nothing_is_changed(self):
        signs = ["a", "b"]
        world = world_of_all(signs)
        signs.append("c")
        self.assertEqual(world.many(), 4)
        self.assertIsNot(world_of_all(["a"]), world_of_all(["a"]))


class Shortest(unittest.TestCase):
    def held(self, sentence, signs):
        """Asks, and holds what is told against the words of the point."""
        told = shortest(sentence, signs)
        self.assertIs(type(told), tuple)
        self.assertEqual(len(told), 3)
        core = core_of(sentence)
        world = world_of_all(signs)
        if told[0] == "kept":
            rows = [world.signs_of(room) for room in range(world.many())]
            for names in told[1] + told[2]:
                self.assertIs(type(names), list)
                self.assertIn(names, rows)
            run = ([rows.index(names) for names in told[1]], [rows.index(names) for names in told[2]])
            self.assertTrue(is_run(world, run))
            self.assertIs(read(world, run, core, []), True)
            self.assertEqual(slowly(world, run, sentence, [], 1), [True])
            self.none_shorter(world, core, len(run[0]) + len(run[1]))
        else:
            self.assertEqual(told[0], "closed")
            self.closed(world, core, told[1], told[2])
        return told

    def none_shorter(self, world, core, size):
        for many in range(1, size):
            for rooms in itertools.product(range(world.many()), repeat=many):
                for first in range(many):
                    run = (list(rooms[:first]), list(rooms[first:]))
                    self.assertIs(read(world, run, core, []), False, (core, run))

    def closed(self, world, core, ranks, lacks):
        rooms = range(world.many())
        nodes = [(room, bits) for room in rooms for bits in all_bits(len(wishes_of(core)))]
        net = {node: leads_to(world, core, [], node) for node in nodes}
        marks = {node: marks_of(world, core, [], node) for node in nodes}
        begins = [node for room in rooms for node in beginnings(world, core, [], room)]
        self.assertIs(closes(net, marks, begins, ranks, lacks), True)
        self.assertTrue(closes_by_words(net, marks, begins, ranks, lacks))

    def test_by_hand(self):
        self.assertEqual(self.held(YES, []), ("kept", [], [[]]))
        self.assertEqual(self.held(A, ["a"]), ("kept", [], [["a"]]))
        self.assertEqual(self.held(no(A), ["a"]), ("kept", [], [[]]))
        self.assertEqual(self.held(both(A, ("next", no(A))), ["a"]), ("kept", [], [["a"], []]))
        self.assertEqual(self.held(both(A, ("next", always(no(A)))), ["a"]), ("kept", [["a"]], [[]]))
        self.assertEqual(self.held(both(always(ever(A)), always(ever(no(A)))), ["a"])[1], [])
        told = self.held(both(no(A), no(B), ("until", no(A), both(B, ("next", always(both(A, no(B))))))), ["a", "b"])
        self.assertEqual(told, ("kept", [[], ["b"]], [["a"]]))

    def test_sizes(self):
        once_each = both(always(ever(both(A, no(B), no(C)))), always(ever(both(B, no(A), no(C)))))
        for sentence, signs, way, ring in (
                (always(A), ["a"], 0, 1), (ever(A), ["a"], 0, 1), (ever(both(A, ("next", no(A)))), ["a"], None, 2),
                (both(A, ("next", both(no(A), ("next", always(no(A)))))), ["a"], 1, 1),
                (both(no(A), ("until", no(A), both(A, ("next", always(A))))), ["a"], 1, 1),
                (once_each, NAMES, 0, 2), (both(A, always(no(both(A, ("next", A)))), always(ever(A))), ["a"], 0, 2),
                (chain("next", 4), ["a"], 0, 1), (both(no(A), chain("next", 3)), ["a"], None, 2),
                (both(no(A), ("next", both(no(A), ("next", A)))), ["a"], None, 3),
                (both(no(A), ("next", both(no(A), ("next", always(A))))), ["a"], 2, 1),
                (("within", 2, no(A), A), ["a"], 0, 1), (both(no(A), ("within", 2, no(A), both(A, B))), ["a", "b"], None, 2)):
            with self.subTest(sentence=sentence):
                told = self.held(sentence, signs)
                self.assertEqual(told[0], "kept")
                if way is None:
                    self.assertEqual(len(told[1]) + len(told[2]), ring)
                else:
                    self.assertEqual((len(told[1]), len(told[2])), (way, ring))

    def test_no_way_keeps_it(self):
        for sentence in (NEVER, both(A, no(A)), both(always(A), ever(no(A))), both(always(ever(A)), ever(always(no(A)))),
                         both(("until", A, B), always(no(B))), both(no(A), always(("next", A)), ("next", no(A))),
                         both(always(A), ("next", no(A))), ("until", YES, both(A, no(A))), both(ever(NEVER)),
                         no(("or", (A, no(A)))), both(A, always(no(A)))):
            with self.subTest(sentence=sentence):
                self.assertEqual(self.held(sentence, ["a", "b"])[0], "closed")
        self.assertEqual(self.held(NEVER, []), ("closed", {}, {}))

    def test_no_signs(self):
        for sentence in (YES, always(YES), ("next", YES), ("until", NEVER, YES), both()):
            self.assertEqual(self.held(sentence, []), ("kept", [], [[]]))
        for sentence in (NEVER, ever(NEVER), ("next", NEVER), ("or", ()), ("until", YES, NEVER)):
            self.assertEqual(self.held(sentence, [])[0], "closed")

    def test_more_signs_than_it_has(self):
        for signs in (["a"], ["a", "b"], ["a", "zz"], NAMES):
            told = self.held(both(A, ("next", no(A))), signs)
            self.assertEqual((told[1], len(told[2])), ([], 2))
        self.assertEqual(self.held(YES, NAMES)[0], "kept")

    def test_many(self):
        dice = dice_of(231)
        told = {"kept": 0, "closed": 0}
        for signs in ([], ["a"], ["a", "b"], NAMES):
            tried = 0
            while tried < 70:
                sentence = some_sentence(dice, 4, AHEAD)
                names = {one for one in NAMES if repr(("sign", one)) in repr(sentence)}
                if not names <= set(signs):
                    continue
                try:
                    answer = self.held(sentence, signs)
                except TooMany:
                    self.assertGreater(len(SlowWishes(world_of_all(signs), core_of(sentence), []).wishes), 4)
                    continue
                told[answer[0]] += 1
                tried += 1
        self.assertGreater(min(told.values()), 15)

    def test_conjunctions(self):
        """Ones that are seldom kept by one room alone."""
        dice = dice_of(232)
        greatest = 0
        for _ in range(120):
            signs = dice.choice((["a"], ["a", "b"]))
            inner = [dice.choice((lambda w: w, ever, always, lambda w: ("next", w), lambda w: always(ever(w)),
                                  lambda w: ("next", ("next", w)), lambda w: ("until", no(A), w)))(
                dice.choice([(lambda w: w), no])(dice.choice([("sign", name) for name in signs]))) for _ in range(3)]
            try:
                told = self.held(("and", tuple(inner)), signs)
            except TooMany:
                continue
            if told[0] == "kept":
                greatest = max(greatest, len(told[1]) + len(told[2]))
            else:
                core = core_of(("and", tuple(inner)))
                slow = SlowWishes(world_of_all(signs), core, [])
                if len(slow.nodes()) <= 32:
                    net = {node: slow.leads_to(node) for node in slow.nodes()}
                    marks = {node: slow.marks(node) for node in slow.nodes()}
                    begins = [node for room in range(slow.world.many()) for node in slow.beginnings(room)]
                    self.assertFalse(has_full_loop(net, marks, begins))
        self.assertGreaterEqual(greatest, 3)

    def test_four_wishes(self):
        four = both(*[ever(both(one, no(other))) for one, other in ((A, B), (B, A), (C, A), (A, C))])
        self.assertEqual(len(wishes_of(core_of(four))), 4)
        self.assertEqual(self.held(four, NAMES)[0], "kept")
        self.assertEqual(self.held(both(always(ever(both(A, no(B), no(C)))), always(ever(both(no(A), B, C)))), NAMES)[0], "kept")

    def test_deep_ones(self):
        self.assertEqual(shortest(chain("not", 499), ["a"]), ("kept", [], [[]]))
        deep = A
        for _ in range(166):
            deep = ("and", (no(B), deep))
        self.assertEqual(shortest(deep, ["a", "b"]), ("kept", [], [["a"]]))

    def test_nothing_is_changed_and_all_is_new(self):
        signs = ["a", "b"]
        for sentence in (both(A, ("next", always(no(A)))), both(A, no(A)), both(always(ever(A)), always(no(A)))):
            told = shortest(sentence, signs)
            kept = copy.deepcopy(told)
            if told[0] == "kept":
                told[1][0].append("z")
                told[1].clear()
                told[2][0].append("z")
            else:
                told[1].clear()
                told[2].clear()
            self.assertEqual(shortest(sentence, signs), kept)
            self.assertEqual(signs, ["a", "b"])
        # Also the same room twice is a list of its own each time.
        way, ring = shortest(both(no(A), ("next", both(no(A), ("next", always(A))))), ["a"])[1:]
        way[0].append("z")
        self.assertEqual(way[1:] + ring, [[], ["a"]])


class Refused(unittest.TestCase):
    five = both(*[("next", one) for one in (A, B, C, both(A, B), both(B, C))])

    def refused(self, error, sentence, signs):
        with self.subTest(sentence=sentence, signs=signs):
            with self.assertRaises(error) as caught:
                shortest(sentence, signs)
            self.assertIs(type(caught.exception), error)

    def test_what_is_no_list_of_signs(self):
        wrong = THINGS + (["b", "a"], ["a", "a"], ["a", "b", "b"], ["a", "b", "c", "d"], ["a", "A"], ["a", ""], ["a", "abcdefghi"],
                          ["a", 1], ["a", None], ["a", True], ("a",), ("a", "b"), {"a": 1}, "a", ["a", ["b"]], [["a"]], [None], [1],
                          ["a", "c", "b"], b"a", ["a", b"b"])
        for signs in wrong:
            if signs not in ([], ["yes"]):
                self.refused(NoAhead, YES, signs)
                self.refused(NoAhead, self.five, signs)
            self.refused(NoAhead, A, signs)

    def test_signs_that_lack_one(self):
        for signs in ([], ["b"], ["b", "c"], ["aa", "b"]):
            self.refused(NoAhead, A, signs)
            self.refused(NoAhead, both(B, always(A)), signs)
        self.refused(NoAhead, both(A, B, C, ("sign", "d")), NAMES)
        self.refused(NoAhead, ("within", 0, C, A), ["a"])

    def test_sentences_that_do_not_look_ahead_alone(self):
        for inner in (("before", A), ("since", A, B), ("once", A), ("sofar", A), ("some", A), ("all", ("next", A)), ("some", YES),
                      ("all", YES), ("before", YES)):
            for sentence in (inner, no(inner), both(A, inner), ("next", inner), ("until", inner, A), ("within", 1, inner, A),
                             ("within", 0, A, inner), ("or", (inner,)), always(ever(inner))):
                self.refused(NoAhead, sentence, ["a", "b"])
                self.refused(NoAhead, sentence, None)

    def test_what_the_core_lacks(self):
        # The core of a within of 0 has its second sentence alone.
        self.assertEqual(shortest(("within", 0, ("before", A), A), ["a"]), ("kept", [], [["a"]]))
        self.refused(NoAhead, ("within", 0, ("some", A), A), ["a"])

    def test_too_many_wishes(self):
        self.assertEqual(len(wishes_of(core_of(self.five))), 5)
        self.refused(TooMany, self.five, NAMES)
        self.refused(TooMany, chain("next", 5), ["a"])
        self.refused(TooMany, chain("next", 12), ["a"])
        self.refused(TooMany, ("within", 5, A, B), ["a", "b"])
        self.assertEqual(shortest(("within", 4, A, B), ["a", "b"])[0], "kept")
        self.assertEqual(shortest(chain("next", 4), ["a"])[0], "kept")

    def test_what_is_no_sentence(self):
        for thing in THINGS + (("sign", "A"), ("next",), ("and", [A]), ("within", 6, A, B), ("other", A), ["yes"], ("not", "a"),
                               both(("before", A), None), both(self.five, None)):
            for signs in (["a"], [], None, ["b", "a"]):
                self.refused(BadSentence, thing, signs)


if __name__ == "__main__":
    unittest.main()

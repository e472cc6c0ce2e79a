"""Wishes and wish rooms [10, 11, 12, 13]."""

import copy
import unittest

from plainly import SlowWishes, all_bits, chain, dice_of, full_world, inner_once, ring_world, some_run, some_sentence, some_world
from timecourt.cores import core_of, inner_parts
from timecourt.errors import TooMany
from timecourt.reading import read_along
from timecourt.wishes import beginnings, is_so, leads_to, marks_of, wishes_of
from timecourt.worlds import World

YES = ("yes",)
A, B, C = [("sign", name) for name in "abc"]
T, F = True, False
WORDS = ("not", "and", "next", "until", "before", "since")


def both(one, other):
    return ("and", (one, other))


def and_of(cores):
    core = cores[-1]
    for one in reversed(cores[:-1]):
        core = both(one, core)
    return core


class Wishes(unittest.TestCase):
    def test_each_kind(self):
        for core in (("next", A), ("until", A, B), ("before", A), ("since", A, B)):
            self.assertEqual(wishes_of(core), [core])
            self.assertEqual(wishes_of(("not", core)), [core])
        for core in (YES, A, ("not", A), both(A, B), ("some", ("next", A))):
            self.assertEqual(wishes_of(core), [])

    def test_in_the_order_of_the_inner_parts(self):
        core = both(("until", ("next", A), ("before", B)), ("since", ("before", B), ("next", ("next", A))))
        self.assertEqual(wishes_of(core), [("next", A), ("before", B), core[1][0], ("next", ("next", A)), core[1][1]])

    def test_each_once(self):
        core = both(("next", A), both(("next", A), ("until", ("next", A), ("next", A))))
        self.assertEqual(wishes_of(core), [("next", A), ("until", ("next", A), ("next", A))])

    def test_not_within_a_some(self):
        some = ("some", ("until", ("next", A), B))
        self.assertEqual(wishes_of(some), [])
        self.assertEqual(wishes_of(("next", some)), [("next", some)])
        self.assertEqual(wishes_of(both(some, ("next", A))), [("next", A)])
        self.assertEqual(wishes_of(some[1]), [("next", A), some[1]])

    def test_eight_and_nine(self):
        for word in ("next", "before"):
            self.assertEqual(len(wishes_of(chain(word, 8))), 8)
            self.assertEqual(len(wishes_of(("not", chain(word, 8)))), 8)
        eight = and_of([("until", A, ("sign", name)) for name in "abcdefgh"])
        self.assertEqual(len(wishes_of(eight)), 8)
        self.assertEqual(len(wishes_of(both(eight, eight))), 8)
        self.assertEqual(len(wishes_of(both(eight, ("some", chain("next", 9))))), 8)
        for core in (chain("next", 9), chain("before", 9), ("not", chain("next", 9)), both(eight, ("next", A)),
                     both(("since", A, B), eight), both(eight, ("next", ("some", A))), ("next", eight), chain("next", 499),
                     and_of([("until", A, ("sign", name)) for name in "abcdefghi"])):
            with self.assertRaises(TooMany) as caught:
                wishes_of(core)
            self.assertIs(type(caught.exception), TooMany)

    def test_deep_cores(self):
        deep = chain("not", 490, ("next", A))
        self.assertEqual(wishes_of(deep), [("next", A)])
        self.assertEqual(wishes_of(("until", YES, deep))[0], ("next", A))
        self.assertEqual(wishes_of(chain("some", 499, ("next", A))), [])

    def test_told_anew(self):
        core = ("until", ("next", A), B)
        first = wishes_of(core)
        first.append(None)
        self.assertEqual(wishes_of(core), [("next", A), core])


class IsSo(unittest.TestCase):
    def setUp(self):
        self.world = full_world([["a"], ["b"], [], ["a", "b"]])

    def so(self, core, node, part, wanted, sets=()):
        with self.subTest(core=core, node=node, part=part):
            self.assertIs(is_so(self.world, core, list(sets), node, part), wanted)

    def test_what_is_no_wish(self):
        some = ("some", A)
        core = both(both(YES, ("not", A)), both(some, B))
        sets = [(some, [1, 2])]
        for room in range(4):
            node = (room, ())
            self.so(core, node, YES, True, sets)
            self.so(core, node, A, room in (0, 3), sets)
            self.so(core, node, B, room in (1, 3), sets)
            self.so(core, node, ("not", A), room in (1, 2), sets)
            self.so(core, node, some, room in (1, 2), sets)
            self.so(core, node, both(some, B), room == 1, sets)
            self.so(core, node, core, room == 1, sets)

    def test_next_and_before(self):
        for word in ("next", "before"):
            core = (word, A)
            for room in range(4):
                self.so(core, (room, (T,)), core, True)
                self.so(core, (room, (F,)), core, False)
                self.so(core, (room, (T,)), A, room in (0, 3))

    def test_until_and_since(self):
        for word in ("until", "since"):
            core = (word, A, B)
            for room, off, on in ((0, F, T), (1, T, T), (2, F, F), (3, T, T)):
                self.so(core, (room, (F,)), core, off)
                self.so(core, (room, (T,)), core, on)

    def test_each_wish_has_its_own_bit(self):
        core = both(("next", A), both(("before", A), both(("until", A, B), ("since", A, B))))
        for bits in all_bits(4):
            for wish, bit in zip(wishes_of(core), bits):
                self.so(core, (0, bits), wish, bit)
            self.so(core, (0, bits), core, all(bits))
            self.so(core, (1, bits), core, bits[0] and bits[1])

    def test_somes_by_their_sets_by_turns(self):
        some = ("some", ("next", A))
        core = ("until", some, B)
        for _ in range(2):
            self.so(core, (0, (T,)), core, True, [(some, [0]), (("some", A), [])])
            self.so(core, (0, (T,)), core, False, [(("some", A), [0]), (some, [2])])

    def test_cores_with_more_than_eight_wishes_are_read_too(self):
        core = chain("next", 9)
        self.so(core, (0, (F,) * 8 + (T,)), core, True)
        self.so(core, (0, (T,) * 8 + (F,)), core, False)
        self.assertEqual(marks_of(self.world, core, [], (0, (T,) * 9)), [])


class Leads(unittest.TestCase):
    def test_next(self):
        world = World([["a"], []], [[0, 1], [0]], [0], [])
        core = ("next", A)
        self.assertEqual(leads_to(world, core, [], (0, (T,))), [(0, (F,)), (0, (T,))])
        self.assertEqual(leads_to(world, core, [], (0, (F,))), [(1, (F,)), (1, (T,))])
        self.assertEqual(leads_to(world, core, [], (1, (T,))), [(0, (F,)), (0, (T,))])
        self.assertEqual(leads_to(world, core, [], (1, (F,))), [])

    def test_until(self):
        world = World([["a"], ["b"], []], [[0, 1, 2], [2], [2]], [0], [])
        core = ("until", A, B)
        self.assertEqual(leads_to(world, core, [], (0, (T,))), [(0, (T,)), (1, (F,)), (1, (T,))])
        self.assertEqual(leads_to(world, core, [], (0, (F,))), [(0, (F,)), (2, (F,)), (2, (T,))])
        self.assertEqual(leads_to(world, core, [], (1, (T,))), [])

    def test_before(self):
        world = World([["a"], []], [[0, 1], [0]], [0], [])
        core = ("before", A)
        for bit in (T, F):
            self.assertEqual(leads_to(world, core, [], (0, (bit,))), [(0, (T,)), (1, (T,))])
            self.assertEqual(leads_to(world, core, [], (1, (bit,))), [(0, (F,))])

    def test_since(self):
        world = World([["a"], ["b"], []], [[0, 1], [2], [0]], [0], [])
        core = ("since", A, B)
        self.assertEqual(leads_to(world, core, [], (0, (T,))), [(0, (T,)), (1, (T,))])
        self.assertEqual(leads_to(world, core, [], (0, (F,))), [(0, (F,)), (1, (F,))])
        self.assertEqual(leads_to(world, core, [], (1, (F,))), [(2, (T,))])
        self.assertEqual(leads_to(world, core, [], (2, (T,))), [(0, (F,))])

    def test_without_wishes(self):
        world = World([["a"], []], [[1, 0], [0]], [0], [])
        self.assertEqual(leads_to(world, A, [], (0, ())), [(0, ()), (1, ())])
        self.assertEqual(beginnings(world, A, [], 0), [(0, ())])
        self.assertEqual(beginnings(world, A, [], 1), [])

    def test_beginnings(self):
        world = World([["a"], ["b"]], [[0, 1], [0]], [0], [])
        core = both(("next", A), ("not", ("before", A)))
        self.assertEqual(beginnings(world, core, [], 0), [(0, (T, F))])
        core = ("until", A, B)
        self.assertEqual(beginnings(world, core, [], 0), [(0, (T,))])
        self.assertEqual(beginnings(world, core, [], 1), [(1, (F,)), (1, (T,))])
        # Nothing is ahead of a beginning: a before is not so, a since only by its second part.
        self.assertEqual(beginnings(world, ("before", A), [], 0), [])
        self.assertEqual(beginnings(world, ("since", A, B), [], 0), [])
        self.assertEqual(beginnings(world, ("since", A, B), [], 1), [(1, (F,))])

    def test_beginnings_are_sorted(self):
        world = World([["a"]], [[0]], [0], [])
        core = ("not", and_of([("not", A), ("next", A), ("until", A, B), ("next", B)]))
        self.assertEqual(beginnings(world, core, [], 0), [(0, bits) for bits in all_bits(3)])

    def test_marks(self):
        world = World([["a"], ["b", "fa"], ["fb", "fa"], ["a", "b"]], [[0, 1, 2, 3]] * 4, [0], ["fb", "fa"])
        core = both(("until", A, B), ("next", ("until", YES, A)))
        # The wishes: until a b, until yes a, next.
        self.assertEqual([part[0] for part in wishes_of(core)], ["until", "until", "next"])
        for room, marks in ((0, [T, T, F, F]), (1, [T, T, F, T]), (2, [T, T, T, T]), (3, [T, T, F, F])):
            self.assertEqual(marks_of(world, core, [], (room, (F, F, T))), marks)
        for room, marks in ((0, [F, T, F, F]), (1, [T, F, F, T]), (2, [T, F, T, T]), (3, [T, T, F, F])):
            self.assertEqual(marks_of(world, core, [], (room, (T, T, F))), marks)

    def test_marks_without_untils_or_fair_signs(self):
        world = World([["a"], []], [[0, 1], [0]], [0], [])
        self.assertEqual(marks_of(world, ("next", A), [], (0, (T,))), [])
        fair = World([["a"], []], [[0, 1], [0]], [0], ["b", "a"])
        self.assertEqual(marks_of(fair, ("since", A, B), [], (0, (T,))), [F, T])
        self.assertEqual(marks_of(fair, YES, [], (1, ())), [F, F])

    def test_many_by_the_very_words(self):
        dice = dice_of(10)
        tried = 0
        while tried < 120:
            core = core_of(some_sentence(dice, 4, WORDS + ("some",)))
            world = some_world(dice, 4, dice.randrange(4))
            somes = [part for part in inner_once(core) if part[0] == "some"]
            sets = [(some, [room for room in range(world.many()) if dice.randrange(2)]) for some in somes]
            dice.shuffle(sets)
            slow = SlowWishes(world, core, sets)
            if not 1 <= len(slow.wishes) <= 4:
                continue
            tried += 1
            self.assertEqual(wishes_of(core), slow.wishes)
            for room in range(world.many()):
                self.assertEqual(beginnings(world, core, sets, room), slow.beginnings(room))
            for node in dice.sample(slow.nodes(), 4 if len(slow.nodes()) >= 4 else 1):
                self.assertEqual(leads_to(world, core, sets, node), slow.leads_to(node))
                told = marks_of(world, core, sets, node)
                self.assertEqual(told, slow.marks(node))
                self.assertTrue(all(type(mark) is bool for mark in told))
                for part in inner_parts(core):
                    self.assertIs(is_so(world, core, sets, node, part), slow.so(node, part))

    def test_eight_wishes(self):
        world = World([["a"], ["b"]], [[0, 1], [0]], [0], ["a"])
        core = ("until", ("next", A), both(chain("before", 2), ("since", ("until", A, B), ("next", ("since", B, A)))))
        self.assertEqual(len(wishes_of(core)), 8)
        slow = SlowWishes(world, core, [])
        for room in (0, 1):
            self.assertEqual(beginnings(world, core, [], room), slow.beginnings(room))
        for node in slow.nodes()[::37]:
            self.assertEqual(leads_to(world, core, [], node), slow.leads_to(node))
            self.assertEqual(marks_of(world, core, [], node), slow.marks(node))

    def test_worlds_of_one_room_and_of_twenty(self):
        one = World([["a"]], [[0]], [0], [])
        self.assertEqual(leads_to(one, ("until", B, A), [], (0, (T,))), [(0, (F,)), (0, (T,))])
        twenty = ring_world(20, [["a"] if room % 2 else ["b"] for room in range(20)], ["b"])
        core = ("until", A, both(B, ("next", A)))
        for room in range(20):
            slow = SlowWishes(twenty, core, [])
            for bits in all_bits(2):
                self.assertEqual(leads_to(twenty, core, [], (room, bits)), slow.leads_to((room, bits)))
            self.assertEqual(beginnings(twenty, core, [], room), slow.beginnings(room))

    def test_each_run_has_a_row_of_wish_rooms(self):
        dice = dice_of(11)
        tried = 0
        while tried < 60:
            core = core_of(some_sentence(dice, 4, WORDS))
            if len([part for part in inner_once(core) if part[0] in WORDS[2:]]) > 8:
                continue
            tried += 1
            world = some_world(dice, 4)
            run = some_run(dice, world)
            many = len(run[0]) + 4 * len(run[1])
            rooms = (run[0] + run[1] * 5)[:many]
            bits = [wish_bits(world, run, wish, many) for wish in wishes_of(core)]
            row = [(room, tuple(one[at] for one in bits)) for at, room in enumerate(rooms)]
            truths = {part: read_along(world, run, part, [], many) for part in inner_parts(core)}
            for at, node in enumerate(row):
                for part in truths:
                    self.assertEqual(is_so(world, core, [], node, part), truths[part][at])
                if at + 1 < many:
                    self.assertIn(row[at + 1], leads_to(world, core, [], node))
            self.assertEqual(row[0] in beginnings(world, core, [], run[0][0] if run[0] else run[1][0]), truths[core][0])
            rounds = [marks_of(world, core, [], node) for node in row[-len(run[1]):]]
            self.assertTrue(all(any(marks) for marks in zip(*rounds)))


def wish_bits(world, run, wish, many):
    """The bits that a wish has along a run: what it wishes of the next place, or keeps of the one ahead."""
    asked = {"next": wish[-1], "until": wish, "before": wish[1], "since": wish}[wish[0]]
    truths = read_along(world, run, asked, [], many + 1)
    return truths[1:] if wish[0] in ("next", "until") else [False] + truths[:-2]


class Deep(unittest.TestCase):
    def test_deep_cores(self):
        world = World([["a"], ["b"]], [[0, 1], [0]], [0], ["b"])
        deep = chain("not", 490)
        core = ("until", B, deep)
        self.assertEqual(leads_to(world, core, [], (0, (T,))), leads_to(world, ("until", B, A), [], (0, (T,))))
        self.assertEqual(beginnings(world, core, [], 1), [(1, (T,))])
        self.assertEqual(marks_of(world, core, [], (1, (T,))), [F, T])
        self.assertIs(is_so(world, core, [], (0, (F,)), deep), True)
        some = ("some", chain("next", 480))
        other = ("some", chain("next", 480, B))
        sets = [(other, [0]), (some, [1])]
        self.assertEqual(beginnings(world, ("next", some), sets, 1), [(1, (T,))])
        self.assertEqual(leads_to(world, ("next", some), sets, (0, (T,))), [(1, (F,)), (1, (T,))])


class Untouched(unittest.TestCase):
    def test_nothing_is_changed(self):
        world = World([["a"], ["b"]], [[0, 1], [0]], [0], ["b"])
        some = ("some", A)
        core, sets, node = ("until", some, B), [(some, [1, 0]), (("some", B), [])], (0, (T,))
        before = copy.deepcopy((core, sets, node))
        is_so(world, core, sets, node, some)
        leads_to(world, core, sets, node)
        beginnings(world, core, sets, 0)
        marks_of(world, core, sets, node)
        wishes_of(core)
        self.assertEqual((core, sets, node), before)

    def test_told_anew(self):
        world = World([["a"], ["b"]], [[0, 1], [0]], [0], ["b"])
        core = ("until", A, B)
        for ask in (lambda: leads_to(world, core, [], (0, (T,))), lambda: beginnings(world, core, [], 1),
                    lambda: marks_of(world, core, [], (0, (T,)))):
            first = ask()
            kept = list(first)
            self.assertTrue(kept)
            first.clear()
            self.assertEqual(ask(), kept)

    def test_two_worlds_and_two_sets_by_turns(self):
        one = World([["a"], ["b"]], [[0, 1], [0]], [0], ["b"])
        other = World([["b"], ["a"]], [[1], [0, 1]], [0], ["a", "b"])
        some = ("some", B)
        core = ("next", some)
        for _ in range(2):
            self.assertEqual(leads_to(one, core, [(some, [1])], (0, (T,))), [(1, (F,)), (1, (T,))])
            self.assertEqual(leads_to(one, core, [(some, [0])], (0, (T,))), [(0, (F,)), (0, (T,))])
            self.assertEqual(leads_to(other, core, [(some, [0])], (0, (T,))), [])
            self.assertEqual(marks_of(one, core, [(some, [0])], (0, (T,))), [F])
            self.assertEqual(marks_of(other, core, [(some, [0])], (0, (T,))), [F, T])


if __name__ == "__main__":
    unittest.main()

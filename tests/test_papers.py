"""Papers [17, 18], and what is refused with them [13]."""

import copy
import unittest

from plainly import THINGS, chain, dice_of, few_wishes, slow_sets, some_run, some_sentence, some_world
from timecourt.cores import core_of
from timecourt.errors import BadSentence, TooMany
from timecourt.judges import judged
from timecourt.papers import lets_by
from timecourt.runs import first_room
from timecourt.worlds import World

YES = ("yes",)
A, B, C = [("sign", name) for name in "abc"]
T, F = True, False

# From room 0 to 1 or 2, which are rings of their own.
WORLD = World([[], ["a"], ["b"]], [[0, 1, 2], [1], [2]], [0], [])
EVER_A = ("some", ("until", YES, A))
# In room 2 the until, if wished, never comes true: the one mark is lacking there.
PAPER = [([0, 1], {0: ([0], [1]), 1: ([], [1])}, {(2, (T,)): 0}, {0: 0})]


def entry_with(place, thing, entry=PAPER[0]):
    """A paper of one entry, in which one thing is another."""
    changed = list(copy.deepcopy(entry))
    changed[place] = thing
    return [tuple(changed)]


class LetsBy(unittest.TestCase):
    def told(self, wanted, paper, sentence=EVER_A, world=WORLD):
        with self.subTest(paper=paper):
            self.assertIs(lets_by(world, sentence, paper), wanted)

    def test_a_paper_by_hand(self):
        self.told(True, PAPER)
        self.told(True, entry_with(1, {0: ([0, 0, 0], [1, 1]), 1: ([1], [1])}))
        self.told(True, entry_with(1, {1: ([1], [1]), 0: ([0], [1])}))
        # Ranks may leave numbers out.
        self.told(True, [PAPER[0][:2] + ({(2, (T,)): 5}, {5: 0})])

    def test_other_words_for_the_same(self):
        self.told(True, PAPER, ("some", ("ever", A)))
        self.told(True, PAPER, ("not", ("some", ("ever", A))))
        self.told(True, PAPER, ("and", (EVER_A, ("or", (EVER_A, B)))))

    def test_no_some(self):
        for sentence in (YES, A, ("not", A), ("and", ()), ("or", (A, B)), ("not", ("and", (A, ("or", ()))))):
            self.told(True, [], sentence)
            self.told(False, PAPER, sentence)
            self.told(False, [()], sentence)

    def test_an_entry_more_or_less(self):
        self.told(False, [])
        self.told(False, PAPER * 2)
        self.told(False, PAPER + [([], {}, {}, {})])
        self.told(False, PAPER + [()])

    def test_two_entries_in_their_order(self):
        ever_b = ("some", ("until", YES, B))
        other = ([0, 2], {0: ([0], [2]), 2: ([], [2])}, {(1, (T,)): 0}, {0: 0})
        both = ("and", (EVER_A, ever_b))
        self.told(True, PAPER + [other], both)
        self.told(False, [other] + PAPER, both)
        self.told(True, [other] + PAPER, ("and", (ever_b, EVER_A)))
        self.told(False, PAPER + PAPER, both)
        self.told(False, PAPER, both)
        self.told(True, PAPER + [other], ("and", (EVER_A, ("or", (ever_b, EVER_A)))))

    def test_rooms(self):
        for rooms in ([1, 0], [0, 0, 1], [0, 1, 1], [0], [1], [], [0, 1, 2], [0, 2], [0, 1, 3], [-1, 0, 1], [F, 1], [0, T], (0, 1),
                      {0: 0, 1: 1}, "01", [0, 1, None], [0, "1"], [[0], [1]], None):
            self.told(False, entry_with(0, rooms))

    def test_a_room_with_its_run_left_out(self):
        # Room 0 is left out with its run: nothing closes its beginnings.
        self.told(False, [([1], {1: ([], [1])}, {(2, (T,)): 0}, {0: 0})])
        self.told(False, [([1], {1: ([], [1])}, {(0, (T,)): 1, (2, (T,)): 0}, {0: 0, 1: 0})])
        self.told(False, [([], {}, {}, {})])

    def test_a_run_too_few_or_too_many(self):
        self.told(False, entry_with(1, {0: ([0], [1])}))
        self.told(False, entry_with(1, {}))
        self.told(False, entry_with(1, {0: ([0], [1]), 1: ([], [1]), 2: ([], [2])}))
        self.told(False, entry_with(1, {0: ([0], [1]), 1: ([], [1]), "x": None}))
        self.told(False, entry_with(1, {0: ([0], [1]), 2: ([], [1])}))

    def test_truths_as_rooms_of_runs(self):
        self.told(False, entry_with(1, {F: ([0], [1]), 1: ([], [1])}))
        self.told(False, entry_with(1, {0: ([0], [1]), T: ([], [1])}))
        self.told(False, entry_with(1, {0: ([0], [T]), 1: ([], [1])}))

    def test_runs_that_are_none(self):
        for run in (([0], []), ([], [0, 1]), ([0, 2], [1]), [[0], [1]], ([0], (1,)), ((0,), [1]), ([0, 1],), ([0], [1], []),
                    ([0], [3])):
            self.told(False, entry_with(1, {0: run, 1: ([], [1])}))

    def test_a_run_that_begins_elsewhere(self):
        self.told(False, entry_with(1, {0: ([], [1]), 1: ([], [1])}))
        self.told(False, entry_with(1, {0: ([1], [1]), 1: ([], [1])}))

    def test_a_run_on_which_the_part_is_read_false(self):
        self.told(False, entry_with(1, {0: ([], [0]), 1: ([], [1])}))
        self.told(False, entry_with(1, {0: ([0], [2]), 1: ([], [1])}))
        self.told(False, [([0, 1, 2], {**PAPER[0][1], 2: ([], [2])}, {}, {})])

    def test_a_run_that_is_not_fair(self):
        fair = World([[], ["a"], ["b"]], [[0, 1, 2], [1], [2]], [0], ["b"])
        self.told(False, PAPER, world=fair)
        # From room 0 the until is wished in vain, or one gets into a ring that is not fair.
        ranks = {(0, (T,)): 2, (1, (F,)): 1, (1, (T,)): 1, (2, (T,)): 0}
        self.told(True, [([], {}, ranks, {2: 0, 1: 1, 0: 0})], world=fair)
        self.told(False, [([], {}, ranks, {2: 0, 1: 1, 0: 1})], world=fair)
        self.told(False, [([], {}, ranks, {2: 0, 1: 0, 0: 0})], world=fair)

    def test_ranks(self):
        for ranks in ({}, {(2, (F,)): 0}, {(0, (T,)): 0}, {(2, (T,)): 1}, {(2, (T,)): -1}, {(2, (T,)): T}, {(2, (T,)): F},
                      {(2, (T,)): None}, {(2, (T,)): "0"}, {(2, (T,)): 0, (1, (T,)): 0}):
            self.told(False, entry_with(2, ranks))

    def test_ranks_of_what_is_no_wish_room(self):
        good = PAPER[0][2]
        for node in ((2, (1,)), (2, (T, T)), (2, ()), (2, T), (2, "T"), (3, (T,)), (-1, (T,)), (T, (T,)),
                     ("2", (T,)), (2,), (), 2, None, "x", (2, (T,), ()), ((2, (T,)),), (2, (None,)), (2, (0,))):
            self.told(False, entry_with(2, {node: 0}))
            if node != (2, (1,)):
                self.told(False, entry_with(2, {**good, node: 0}))

    def test_bits_that_are_numbers(self):
        self.told(False, entry_with(2, {(2, (1,)): 0}))
        # The number 1 is taken for True by a dict that has the one or the other.
        mixed = {}
        mixed[(2, (1,))] = 0
        mixed[(2, (T,))] = 0
        self.assertEqual(len(mixed), 1)
        self.told(False, entry_with(2, mixed))

    def test_ranks_of_wish_rooms_that_are_not_reached(self):
        # From room 2 with False one goes on to itself, and the mark is there.
        self.told(False, entry_with(2, {(2, (T,)): 0, (2, (F,)): 0}))
        # From room 1, with a False wish of a next, nothing is on.
        sentence = ("some", ("and", (B, ("next", A))))
        empty = ([], {}, {(2, (T,)): 0}, {0: None})
        self.told(True, [empty], sentence)
        self.told(True, [([], {}, {(2, (T,)): 0, (1, (F,)): 4}, {0: None, 4: None})], sentence)
        self.told(False, [([], {}, {(2, (T,)): 0, (1, (T,)): 4}, {0: None, 4: None})], sentence)

    def test_lacks(self):
        for lacks in ({}, {0: None}, {0: 1}, {0: -1}, {0: T}, {0: F}, {F: 0}, {0: 0, 1: 0}, {1: 0}, {0: "0"}, {0: (0,)}, [0], (0,),
                      None, "0", {"0": 0}):
            self.told(False, entry_with(3, lacks))

    def test_of_anything(self):
        for thing in THINGS:
            if thing != []:
                self.told(False, thing, YES)
            self.told(False, thing)
            self.told(False, [thing])
            for place in range(4):
                self.told(False, entry_with(place, thing))
            self.told(False, entry_with(1, {0: ([0], [1]), 1: thing}))
            if not (type(thing) is int and thing == 1):
                self.told(False, entry_with(0, [0, thing]))
                self.told(False, entry_with(1, {0: ([0], [1]), 1: ([thing], [1])}))
            if not (type(thing) is int and thing == 0):
                self.told(False, entry_with(2, {(2, (T,)): thing}))
                self.told(False, entry_with(3, {0: thing}))
        for thing in (tuple(PAPER), [list(PAPER[0])], PAPER[0], [PAPER], {0: PAPER[0]}, [PAPER[0][:3]], [PAPER[0] + ({},)]):
            self.told(False, thing)
        for place in (1, 2, 3):
            self.told(False, entry_with(place, list(PAPER[0][place].items())))
            self.told(False, entry_with(place, tuple(PAPER[0][place].items())))
            self.told(False, entry_with(place, list(PAPER[0][place].values())))

    def test_lists_that_hold_themselves(self):
        paper = []
        paper.append(paper)
        self.told(False, paper)
        rooms = [0]
        rooms.append(rooms)
        self.told(False, entry_with(0, rooms))

    def test_somes_within_somes_by_the_entries_ahead(self):
        inner = ("some", ("next", A))
        outer = ("some", ("next", inner))
        first = ([0, 1], {0: ([0], [1]), 1: ([], [1])}, {(2, (T,)): 0}, {0: None})
        second = ([0, 1], {0: ([0], [1]), 1: ([], [1])}, {(2, (T,)): 0}, {0: None})
        self.told(True, [first, second], outer)
        # A paper whose first entry is false is not let by, though the second would hold by it.
        wrong = ([1], {1: ([], [1])}, {(2, (T,)): 0}, {0: None})
        self.told(False, [wrong, second], outer)
        self.told(False, [first, wrong], outer)

    def test_the_very_same_paper_for_another_world(self):
        other = World([[], ["a"], ["b"]], [[0, 1, 2], [1], [2, 0]], [0], [])
        for _ in range(2):
            self.told(True, PAPER)
            self.told(False, PAPER, world=other)

    def test_papers_of_the_judge(self):
        dice = dice_of(30)
        words = ("not", "and", "next", "until", "before", "since", "some", "some")
        tried = 0
        while tried < 150:
            world = some_world(dice, 4, dice.randrange(4))
            core = ("some", core_of(some_sentence(dice, 4, words)))
            if not few_wishes(world, core, 32):
                continue
            tried += 1
            paper = judged(world, core)
            self.assertIs(lets_by(world, core, paper), True)
            self.assertEqual([entry[0] for entry in paper], [rooms for some, rooms in slow_sets(world, core)])
            self.spoiled(dice, world, core, paper)

    def spoiled(self, dice, world, core, paper):
        """The paper, with something wrong in it, is not let by."""
        place = dice.randrange(len(paper))
        rooms, runs, ranks, lacks = paper[place]

        def not_let_by(*entry):
            changed = paper[:place] + [entry] + paper[place + 1:]
            self.assertIs(lets_by(world, core, changed), False, (core, changed))

        for room in rooms:
            # A room that is left out has a fair run: nothing closes it.
            fewer = {other: runs[other] for other in runs if other != room}
            not_let_by(sorted(fewer), fewer, ranks, lacks)
        for room in range(world.many()):
            if room not in rooms:
                run = some_run(dice, world)
                if first_room(run) == room:
                    not_let_by(sorted(rooms + [room]), {**runs, room: run}, ranks, lacks)
        for node in ranks:
            not_let_by(rooms, runs, {**ranks, node: True}, lacks)
        if ranks:
            # The judge ranks those alone that come from beginnings.
            not_let_by(rooms, runs, {}, {})
        not_let_by(rooms, runs, ranks, {**lacks, 1000: None})
        not_let_by(rooms, runs, {**ranks, (world.many(), ()): 0}, {**lacks, 0: None})

    def test_whatever_paper_is_let_by_tells_just_the_rooms(self):
        """Papers made at hand: those that are let by tell the rooms of the slow reading."""
        dice = dice_of(31)
        let = 0
        for _ in range(4000):
            world = some_world(dice, 2, dice.randrange(2))
            some = dice.choice([("some", ("next", A)), ("some", ("until", YES, A)), ("some", A), ("some", ("until", B, A))])
            rooms = [room for room in range(world.many()) if dice.randrange(2)]
            runs = {room: some_run_from(dice, world, room) for room in rooms}
            bits = [()] if some == ("some", A) else [(False,), (True,)]
            nodes = [(room, one) for room in range(world.many()) for one in bits]
            ranks = {node: dice.randrange(2) for node in nodes if dice.randrange(2)}
            lacks = {rank: dice.choice((None, 0, 1)) for rank in set(ranks.values())}
            if lets_by(world, some, [(rooms, runs, ranks, lacks)]):
                let += 1
                self.assertEqual([(some, rooms)], slow_sets(world, some))
        self.assertGreater(let, 50)


def some_run_from(dice, world, room):
    while True:
        run = some_run(dice, world)
        if first_room(run) == room:
            return run


class Refused(unittest.TestCase):
    def refused(self, error, world, sentence, paper=()):
        with self.subTest(sentence=sentence):
            with self.assertRaises(error) as caught:
                lets_by(world, sentence, list(paper))
            self.assertIs(type(caught.exception), error)

    def test_no_sentences(self):
        for thing in THINGS + (["yes"], ("some",), ("some", ["yes"]), ("all", None), ("within", 6, A, B)):
            self.refused(BadSentence, WORLD, thing)
            self.refused(BadSentence, WORLD, ("some", thing))
            self.refused(BadSentence, WORLD, thing, PAPER)

    def test_sentences_of_ways(self):
        for sentence in (("next", A), ("until", A, B), ("always", A), ("ever", EVER_A), ("before", A), ("since", A, B),
                         ("once", A), ("sofar", A), ("within", 0, A, B), ("not", ("next", A)), ("and", (EVER_A, ("next", A))),
                         ("or", (("ever", A),))):
            self.refused(BadSentence, WORLD, sentence)
            self.refused(BadSentence, WORLD, sentence, PAPER)

    def test_eight_wishes_and_nine(self):
        one = World([["a"]], [[0]], [0], [])
        eight, nine = ("some", chain("next", 8)), ("some", chain("next", 9))
        self.assertIs(lets_by(one, eight, judged(one, eight)), True)
        self.assertIs(lets_by(one, eight, []), False)
        self.refused(TooMany, one, nine)
        self.refused(TooMany, one, ("not", nine))
        self.refused(TooMany, one, ("and", (A, ("or", (A, ("some", ("not", nine)))))))
        self.refused(TooMany, one, ("some", ("until", nine, A)))

    def test_as_many_wish_rooms_as_are_let_in(self):
        for rooms, wishes in ((20, 5), (10, 6), (5, 7), (2, 8), (19, 5), (1, 8)):
            world = World([["a"]] * rooms, [[(room + 1) % rooms] for room in range(rooms)], [0], [])
            self.assertIs(lets_by(world, ("some", chain("next", wishes)), [None]), False)
        for rooms, wishes in ((20, 6), (11, 6), (6, 7), (3, 8), (20, 8), (1, 9)):
            world = World([["a"]] * rooms, [[(room + 1) % rooms] for room in range(rooms)], [0], [])
            self.refused(TooMany, world, ("some", chain("next", wishes)))
            self.refused(TooMany, world, ("and", (("some", A), ("not", ("some", chain("before", wishes))))))

    def test_wishes_of_each_some_by_itself(self):
        one = World([["a"]], [[0]], [0], [])
        both = ("some", ("and", (chain("next", 7), ("next", ("some", chain("next", 8))))))
        self.assertIs(lets_by(one, both, judged(one, both)), True)
        self.refused(TooMany, one, ("some", ("and", (chain("next", 8), ("next", ("some", A))))))

    def test_bad_sentence_ahead_of_too_many(self):
        self.refused(BadSentence, WORLD, ("next", ("some", chain("next", 9))))
        self.refused(BadSentence, WORLD, ("and", (("some", chain("next", 9)), None)))

    def test_too_many_ahead_of_the_paper(self):
        self.refused(TooMany, WORLD, ("some", chain("next", 9)), [None])


class Untouched(unittest.TestCase):
    def test_nothing_is_changed(self):
        for paper in (PAPER, entry_with(0, [1, 0]), entry_with(2, {})):
            before = copy.deepcopy(paper)
            lets_by(WORLD, EVER_A, paper)
            self.assertEqual(paper, before)

    def test_deep_cores(self):
        deep = chain("some", 120, chain("not", 350))
        paper = judged(WORLD, deep)
        self.assertEqual(len(paper), 120)
        self.assertIs(lets_by(WORLD, deep, paper), True)
        self.assertIs(lets_by(WORLD, deep, paper[:-1] + [([], {}, {}, {})]), False)


if __name__ == "__main__":
    unittest.main()

"""The judge [3, 19], and what it refuses [13]."""

import copy
import unittest

from plainly import (THINGS, all_runs, chain, dice_of, few_wishes, full_world, ring_world, slow_loop, slow_rooms, slow_sets,
                     slowly, some_sentence, some_world, somes_in)
from timecourt.cores import core_of
from timecourt.errors import BadSentence, TooMany
from timecourt.judges import is_kept, judged, rooms_of, way_against
from timecourt.papers import lets_by
from timecourt.reading import read
from timecourt.runs import first_room, is_fair, is_run
from timecourt.sentences import kind_of
from timecourt.worlds import World

YES = ("yes",)
NEVER = ("not", YES)
A, B, C = [("sign", name) for name in "abc"]
WORDS = ("not", "and", "next", "until", "before", "since", "some", "some")
ALL_WORDS = ("not", "and", "or", "next", "until", "before", "since", "some", "all", "always", "ever", "once", "sofar", "within")

# From room 0 on to 1 and to the ring 2; 1 leads back, or to the ring 3 4.
SIGNS = [[], ["a"], ["b"], ["a", "b"], ["c"]]
WAYS = [[1, 2], [0, 3], [2], [4], [3]]


def world_with(fair=(), starts=(0,)):
    return World(SIGNS, WAYS, list(starts), list(fair))


def either(*sentences):
    return ("or", sentences)


def both(*sentences):
    return ("and", sentences)


def no(sentence):
    return ("not", sentence)


class Rooms(unittest.TestCase):
    def rooms(self, sentence, wanted, world=None):
        world = world or world_with()
        with self.subTest(sentence=sentence):
            self.assertEqual(rooms_of(world, sentence), wanted)
            self.assertIs(is_kept(world, sentence), all(start in wanted for start in world.begins()))
            paper = judged(world, sentence)
            self.assertIs(lets_by(world, sentence, paper), True)
            if kind_of(sentence) == "room" and sentence[0] == "some":
                self.assertEqual(paper[-1][0], wanted)

    def test_no_quantifier(self):
        self.rooms(YES, [0, 1, 2, 3, 4])
        self.rooms(NEVER, [])
        self.rooms(A, [1, 3])
        self.rooms(no(A), [0, 2, 4])
        self.rooms(both(A, B), [3])
        self.rooms(either(A, B), [1, 2, 3])
        self.rooms(both(), [0, 1, 2, 3, 4])
        self.rooms(either(), [])
        self.rooms(("sign", "until"), [])

    def test_next(self):
        self.rooms(("some", ("next", A)), [0, 1, 4])
        self.rooms(("all", ("next", A)), [4])
        self.rooms(("some", ("next", B)), [0, 1, 2, 4])
        self.rooms(("all", ("next", ("next", A))), [3])
        self.rooms(("some", ("next", ("some", ("next", C)))), [1, 4])

    def test_ever_and_always(self):
        self.rooms(("some", ("ever", C)), [0, 1, 3, 4])
        self.rooms(("all", ("ever", C)), [3, 4])
        self.rooms(("some", ("always", no(C))), [0, 1, 2])
        self.rooms(("all", ("always", no(C))), [2])
        self.rooms(("some", ("always", B)), [2])
        self.rooms(("all", ("always", ("ever", B))), [2, 3, 4])
        self.rooms(("some", ("always", ("ever", A))), [0, 1, 3, 4])
        self.rooms(("all", ("ever", ("always", B))), [2])
        self.rooms(("all", ("ever", B)), [2, 3, 4])

    def test_until_and_within(self):
        self.rooms(("some", ("until", A, C)), [1, 3, 4])
        self.rooms(("all", ("until", A, C)), [3, 4])
        self.rooms(("some", ("until", no(B), C)), [4])
        self.rooms(("some", ("within", 0, YES, C)), [4])
        self.rooms(("some", ("within", 1, YES, C)), [3, 4])
        self.rooms(("some", ("within", 2, YES, C)), [1, 3, 4])
        self.rooms(("some", ("within", 3, YES, C)), [0, 1, 3, 4])
        self.rooms(("all", ("within", 1, YES, B)), [2, 3, 4])

    def test_back(self):
        # The way begins where the quantifier stands.
        self.rooms(("some", ("before", YES)), [])
        self.rooms(("all", ("next", ("before", A))), [1, 3])
        self.rooms(("some", ("ever", both(C, ("before", ("before", A))))), [0, 1])
        self.rooms(("some", ("ever", both(C, ("since", no(B), A)))), [0, 1, 3, 4])
        self.rooms(("some", ("ever", both(C, ("since", no(C), A)))), [])
        self.rooms(("some", ("ever", both(B, ("once", C)))), [0, 1, 3, 4])
        self.rooms(("all", ("always", ("once", A))), [1, 3])
        self.rooms(("some", ("always", ("sofar", B))), [2])
        self.rooms(("some", ("ever", both(C, ("sofar", either(A, C))))), [1, 3, 4])
        self.rooms(("some", ("ever", ("some", ("before", YES)))), [])

    def test_somes_within_somes(self):
        self.rooms(("all", ("always", ("some", ("ever", C)))), [3, 4])
        self.rooms(("some", ("always", ("some", ("ever", C)))), [0, 1, 3, 4])
        self.rooms(("some", ("ever", ("all", ("always", B)))), [0, 1, 2])
        self.rooms(("all", ("ever", either(("all", ("always", B)), ("all", ("always", either(both(A, B), C)))))), [2, 3, 4])
        self.rooms(both(("some", ("next", A)), no(("all", ("next", A)))), [0, 1])

    def test_fair_signs(self):
        # With c fair room 2 has no fair way; with a and b the ring 3 4 has all.
        self.rooms(("some", YES), [0, 1, 3, 4], world_with(["c"]))
        self.rooms(("all", ("ever", C)), [0, 1, 2, 3, 4], world_with(["c"]))
        self.rooms(("some", ("next", B)), [1, 4], world_with(["c"]))
        self.rooms(("all", NEVER), [2], world_with(["c"]))
        self.rooms(("some", YES), [0, 1, 3, 4], world_with(["a", "b"]))
        self.rooms(("some", YES), [0, 1, 3, 4], world_with(["a"]))
        self.rooms(("all", ("ever", C)), [2, 3, 4], world_with(["a"]))
        self.rooms(("some", ("always", no(B))), [0, 1], world_with(["a"]))
        self.rooms(("all", ("always", ("ever", B))), [0, 1, 2, 3, 4], world_with(["b"]))
        self.rooms(("some", YES), [0, 1, 3, 4], world_with(["c", "a", "b"]))

    def test_no_fair_way_at_all(self):
        world = world_with(["z", "a"])
        for inner in (YES, NEVER, A, ("next", A), ("until", A, B), ("before", A)):
            self.rooms(("some", inner), [], world)
            self.rooms(("all", inner), [0, 1, 2, 3, 4], world)
        self.rooms(both(A, ("all", NEVER)), [1, 3], world)
        # A sentence of rooms alone needs no way.
        self.rooms(A, [1, 3], world)

    def test_worlds_of_one_room_and_of_twenty(self):
        one = World([["a"]], [[0]], [0], ["a"])
        self.rooms(("all", ("always", A)), [0], one)
        self.rooms(("some", ("ever", B)), [], one)
        twenty = ring_world(20, [["a"] if room == 7 else [] for room in range(20)], ["a"])
        self.rooms(("some", ("within", 5, YES, A)), [2, 3, 4, 5, 6, 7], twenty)
        self.rooms(("all", ("always", ("ever", A))), list(range(20)), twenty)
        free = full_world([[name for at, name in enumerate("abc") if room >> at & 1] for room in range(20)], ["a", "b", "c"])
        self.rooms(("some", ("until", A, ("until", B, both(C, ("next", no(C)))))), [room for room in range(20) if room & 7], free)

    def test_kept_at_each_start(self):
        sentence = ("some", ("next", A))
        for starts, wanted in (([0], True), ([0, 1, 4], True), ([2], False), ([0, 2], False), ([3, 1], False), ([4], True)):
            self.assertIs(is_kept(world_with(starts=starts), sentence), wanted)


SAME = (
    (("all", A), no(("some", no(A)))),
    (("ever", A), ("until", YES, A)),
    (("always", A), no(("ever", no(A)))),
    (("until", A, B), either(B, both(A, ("next", ("until", A, B))))),
    (("within", 2, A, B), either(B, both(A, ("next", either(B, both(A, ("next", B))))))),
    (("once", A), ("since", YES, A)),
    (("sofar", A), no(("once", no(A)))),
    (("next", both(A, B)), both(("next", A), ("next", B))),
    (("ever", either(A, B)), either(("ever", A), ("ever", B))),
    (("until", A, B), no(either(("always", no(B)), ("until", no(B), both(no(A), no(B)))))),
    (("ever", both(B, ("once", A))), ("ever", both(A, ("ever", B)))),
    (("next", ("before", A)), A),
    (("always", ("always", A)), ("always", A)),
    (("ever", ("always", ("ever", A))), ("always", ("ever", A))),
)


class ByOtherWords(unittest.TestCase):
    def test_the_same_rooms(self):
        dice = dice_of(40)
        for _ in range(8):
            world = some_world(dice, 5, dice.randrange(4))
            for one, other in SAME:
                with self.subTest(one=one, other=other):
                    for word in ("all", "some"):
                        self.assertEqual(rooms_of(world, (word, one)), rooms_of(world, (word, other)))
                    self.assertEqual(way_against(world, one) is None, way_against(world, other) is None)
                    self.assertEqual(rooms_of(world, ("all", one)), rooms_of(world, no(("some", no(other)))))

    def test_all_and_some_of_a_both_and_an_either(self):
        dice = dice_of(41)
        for _ in range(30):
            world = some_world(dice, 4, dice.randrange(3))
            one, other = [some_sentence(dice, 2, ("not", "next", "until", "before", "since")) for _ in range(2)]
            self.assertEqual(rooms_of(world, ("all", both(one, other))), rooms_of(world, both(("all", one), ("all", other))))
            self.assertEqual(rooms_of(world, ("some", either(one, other))), rooms_of(world, either(("some", one), ("some", other))))


class ByTheVeryWords(unittest.TestCase):
    def sentences(self, number, many, words, quantified):
        """Worlds, sentences and their cores, with wishes few enough for the slow reading."""
        dice = dice_of(number)
        while many:
            world = some_world(dice, 4, dice.choice((0, 0, 1, 2, 3)))
            sentence = some_sentence(dice, 4, words)
            if quantified:
                sentence = (dice.choice(("some", "all")), sentence)
            core = core_of(sentence)
            if somes_in(core) and few_wishes(world, core, 32):
                many -= 1
                yield world, sentence, core

    def test_rooms(self):
        for world, sentence, core in self.sentences(42, 150, ALL_WORDS, True):
            wanted = slow_rooms(world, core)
            self.assertEqual(rooms_of(world, sentence), wanted, sentence)
            self.assertIs(is_kept(world, sentence), all(start in wanted for start in world.begins()))

    def test_papers(self):
        for world, sentence, core in self.sentences(43, 120, WORDS, True):
            paper = judged(world, sentence)
            sets = slow_sets(world, core)
            self.assertEqual([entry[0] for entry in paper], [rooms for some, rooms in sets])
            self.assertIs(lets_by(world, sentence, paper), True)
            for (some, rooms), entry in zip(sets, paper):
                self.assertEqual(list(map(type, entry)), [list, dict, dict, dict])
                self.assertEqual(sorted(entry[1]), rooms)
                for room, run in entry[1].items():
                    self.assertTrue(is_run(world, run) and is_fair(world, run) and first_room(run) == room)
                    self.assertIs(slowly(world, run, some[1], sets, 1)[0], True)

    def test_each_run_counts(self):
        """No short fair run from a room that is left out keeps the part."""
        for world, sentence, core in self.sentences(44, 40, WORDS, True):
            sets = slow_sets(world, core)
            for some, rooms in sets:
                for room in range(world.many()):
                    found = any(is_fair(world, run) and read(world, run, some[1], sets) for run in all_runs(world, room, 5))
                    self.assertTrue(room in rooms or not found)

    def test_ways_against(self):
        seen = {True: 0, False: 0}
        for world, sentence, core in self.sentences(45, 200, ALL_WORDS, False):
            sets = slow_sets(world, core)
            run = way_against(world, sentence)
            seen[run is None] += 1
            self.assertEqual(run is not None, slow_loop(world, no(core), sets, world.begins()), sentence)
            if run is not None:
                self.assertTrue(is_run(world, run) and is_fair(world, run) and first_room(run) in world.begins())
                self.assertIs(slowly(world, run, core, sets, 1)[0], False)
        self.assertGreater(min(seen.values()), 20)


class Against(unittest.TestCase):
    def against(self, sentence, found, world=None):
        """Whether a way against a sentence is found; it is a fair run from a start, and read False."""
        world = world or world_with()
        with self.subTest(sentence=sentence):
            run = way_against(world, sentence)
            self.assertEqual(run is not None, found)
            if found:
                self.assertTrue(is_run(world, run) and is_fair(world, run))
                self.assertIn(first_room(run), world.begins())
                core = core_of(sentence)
                self.assertIs(slowly(world, run, core, slow_sets(world, core), 1)[0], False)
                self.assertIs(read(world, run, core, slow_sets(world, core)), False)
            return run

    def test_sentences_of_ways(self):
        self.against(("ever", C), True)
        self.against(("ever", B), True)
        self.against(("ever", either(A, B)), False)
        self.against(("always", no(C)), True)
        self.against(("next", either(A, B)), False)
        self.against(("next", A), True)
        self.against(("before", YES), True)
        self.against(no(("before", YES)), False)
        self.against(("always", either(no(C), ("before", both(A, B)))), False)
        self.against(("until", no(C), either(B, A)), False)
        self.against(("since", YES, A), True)

    def test_sentences_of_rooms(self):
        self.against(YES, False)
        self.against(NEVER, True)
        self.against(A, True)
        self.against(A, False, world_with(starts=[1, 3]))
        self.against(A, True, world_with(starts=[1, 2, 3]))
        self.against(("some", ("next", A)), False)
        self.against(("all", ("next", A)), True)
        self.assertEqual(first_room(self.against(A, True, world_with(starts=[1, 2, 3]))), 2)

    def test_quantifiers_within(self):
        self.against(("always", ("some", ("ever", either(B, C)))), False)
        self.against(("always", ("some", ("ever", C))), True)
        self.against(("ever", ("all", ("always", either(A, B, C)))), True)
        self.against(("next", ("next", ("some", ("always", B)))), True)
        self.against(("ever", ("all", ("ever", B))), True)

    def test_fair_runs_alone(self):
        self.against(("ever", C), False, world_with(["c"]))
        self.against(("ever", C), True, world_with(["a"]))
        self.against(("ever", B), False, world_with(["b"]))
        self.against(("ever", C), False, world_with(["b", "a"], starts=[1, 3, 4]))
        self.against(("always", ("ever", A)), False, world_with(["a", "b"]))
        self.against(("next", B), True, world_with(["c"]))

    def test_no_fair_way_at_the_starts(self):
        for sentence in (NEVER, A, ("next", A), ("some", YES), ("all", NEVER), ("always", NEVER)):
            self.against(sentence, False, world_with(["z"]))
            self.against(sentence, False, world_with(["c"], starts=[2]))
        # There are fair ways elsewhere.
        self.against(NEVER, True, world_with(["c"], starts=[2, 3]))
        self.assertEqual(way_against(world_with(["c"], starts=[2, 3]), NEVER)[0][:1] or [3], [3])

    def test_kinds(self):
        run = way_against(world_with(), ("ever", C))
        self.assertIs(type(run), tuple)
        self.assertEqual([type(rooms) for rooms in run], [list, list])
        self.assertTrue(all(type(room) is int for rooms in run for room in rooms))


class Refused(unittest.TestCase):
    ROOM_DOORS = (judged, rooms_of, is_kept)

    def refused(self, error, sentence, doors, world=None):
        for door in doors:
            with self.subTest(sentence=sentence, door=door.__name__):
                with self.assertRaises(error) as caught:
                    door(world or world_with(), sentence)
                self.assertIs(type(caught.exception), error)

    def test_no_sentences(self):
        for thing in THINGS + (["yes"], ("sign", "A"), ("some", ["yes"]), ("all",), ("within", 6, A, B), ("and", [A])):
            for sentence in (thing, ("all", thing), ("some", ("until", A, thing)), ("not", thing)):
                self.refused(BadSentence, sentence, self.ROOM_DOORS + (way_against,))

    def test_sentences_of_ways(self):
        for sentence in (("next", A), ("until", A, B), ("always", A), ("ever", ("some", A)), ("before", A), ("since", A, B),
                         ("once", A), ("sofar", A), ("within", 0, A, B), no(("next", A)), both(A, ("next", A)),
                         either(("all", A), ("ever", A))):
            self.refused(BadSentence, sentence, self.ROOM_DOORS)
            way_against(world_with(), sentence)

    def test_eight_wishes_and_nine(self):
        one = World([["a"]], [[0]], [0], [])
        for word in ("next", "before"):
            for door in self.ROOM_DOORS + (way_against,):
                door(one, ("some", chain(word, 8)))
            self.refused(TooMany, ("some", chain(word, 9)), self.ROOM_DOORS + (way_against,), one)
            self.refused(TooMany, both(A, no(("all", ("next", ("some", chain(word, 9)))))), self.ROOM_DOORS + (way_against,), one)

    def test_wish_rooms(self):
        for rooms, wishes in ((20, 5), (10, 6), (5, 7), (2, 8)):
            world = ring_world(rooms, [["a"]] * rooms)
            self.assertEqual(rooms_of(world, ("some", chain("next", wishes))), list(range(rooms)))
            self.assertIs(is_kept(world, ("all", chain("before", wishes))), False)
            self.assertIsNone(way_against(world, chain("next", wishes)))
            self.assertIsNone(way_against(world, both(chain("next", wishes), ("some", chain("next", wishes)))))
        for rooms, wishes in ((20, 6), (11, 6), (6, 7), (3, 8), (1, 9)):
            world = ring_world(rooms, [["a"]] * rooms)
            self.refused(TooMany, ("some", chain("next", wishes)), self.ROOM_DOORS + (way_against,), world)
            self.refused(TooMany, ("all", chain("before", wishes)), self.ROOM_DOORS + (way_against,), world)
            # By the wishes of the core itself, for a way against it.
            self.refused(TooMany, chain("next", wishes), (way_against,), world)
            self.refused(TooMany, ("next", ("some", chain("next", wishes))), (way_against,), world)

    def test_bad_sentence_ahead_of_too_many(self):
        nine = ("some", chain("next", 9))
        self.refused(BadSentence, ("next", nine), self.ROOM_DOORS)
        self.refused(BadSentence, both(nine, ("sign", "")), self.ROOM_DOORS + (way_against,))
        self.refused(TooMany, ("next", nine), (way_against,))

    def test_too_many_where_no_start_needs_it(self):
        # It is refused ahead of all, whether it would have to be judged or not.
        self.refused(TooMany, both(NEVER, ("some", chain("next", 9))), self.ROOM_DOORS + (way_against,))


class Untouched(unittest.TestCase):
    SENTENCE = both(("all", ("ever", either(B, C))), ("some", ("always", no(B))))

    def test_the_same_each_time_and_new_each_time(self):
        for ask in (lambda: judged(world_with(), self.SENTENCE), lambda: rooms_of(world_with(), ("some", ("next", A))),
                    lambda: list(way_against(world_with(), ("ever", C)))):
            first = ask()
            kept = copy.deepcopy(first)
            self.assertEqual(ask(), kept)
            spoil(first)
            self.assertEqual(ask(), kept)

    def test_of_one_world_too(self):
        world = world_with(["a"])
        kept = copy.deepcopy(judged(world, self.SENTENCE))
        spoil(judged(world, self.SENTENCE))
        self.assertEqual(judged(world, self.SENTENCE), kept)
        self.assertEqual(judged(world_with(["a"]), self.SENTENCE), kept)

    def test_entries_share_nothing(self):
        paper = judged(world_with(), both(("some", A), ("some", both(A, A))))
        kept = copy.deepcopy(paper[1])
        spoil([paper[0]])
        self.assertEqual(paper[1], kept)

    def test_worlds_by_turns(self):
        one, other = world_with(), World(SIGNS[::-1], WAYS, [0], ["a"])
        for _ in range(2):
            self.assertEqual(rooms_of(one, ("some", ("next", C))), [3])
            self.assertEqual(rooms_of(other, ("some", ("next", C))), [1])

    def test_deep_cores(self):
        deep = chain("some", 100, chain("not", 380, ("next", A)))
        world = world_with()
        self.assertEqual(rooms_of(world, deep), rooms_of(world, ("some", ("next", A))))
        self.assertEqual(len(judged(world, deep)), 100)
        self.assertIs(is_kept(world, chain("not", 499, YES)), False)
        self.assertIsNone(way_against(world, no(chain("not", 499, YES))))
        self.assertEqual(rooms_of(world, ("all", ("next", chain("not", 490)))), rooms_of(world, ("all", ("next", A))))

    def test_a_core_of_nearly_two_thousand(self):
        great = ("within", 2, ("within", 1, C, A), ("within", 2, B, ("within", 1, C, A)))
        wide = both(*[("some", ("within", 3, ("sign", "a" + name), B)) for name in "abcdefgh"])
        world = world_with()
        self.assertEqual(rooms_of(world, wide), [2, 3])
        self.assertIsNone(way_against(world, either(no(great), great)))


def spoil(thing):
    """Empties all lists and dicts within a thing."""
    for inner in list(thing.values()) if isinstance(thing, dict) else list(thing) if isinstance(thing, (list, tuple)) else []:
        spoil(inner)
    if isinstance(thing, (list, dict)):
        thing.clear()


if __name__ == "__main__":
    unittest.main()

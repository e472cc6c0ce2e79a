"""The promise over the whole [2, 3]: all parts of the program held against one another."""

import copy
import inspect
import unittest

from plainly import as_lists, dice_of, some_branch, some_run, some_sentence, some_world, unrolled
from timecourt.branches import fair_rooms, rooms_by_sets, turns
from timecourt.cores import core_of, size_of
from timecourt.desks import Desk
from timecourt.errors import TooMany
from timecourt.judges import is_kept, judged, rooms_of, way_against
from timecourt.machines import Machine, beside
from timecourt.papers import lets_by
from timecourt.reading import read, read_along
from timecourt.shorter import shorter
from timecourt.shortest import shortest, world_of_all
from timecourt.smaller import smaller
from timecourt.texts import read_sentence, show
from timecourt.ties import compared, is_tie
from timecourt.worlds import World
from timecourt.worldtexts import read_world, show_world

YES = ("yes",)
A, B = ("sign", "a"), ("sign", "b")
ALL_WORDS = ("not", "and", "or", "next", "until", "before", "since", "some", "all", "always", "ever", "once", "sofar", "within")


def of_rooms(dice):
    """A sentence of rooms, with any ways in its quantifiers."""
    sentence = (dice.choice(("all", "some")), some_sentence(dice, 3, ALL_WORDS))
    return dice.choice((sentence, ("not", sentence), ("and", (A, sentence)), ("or", (sentence, B, ("not", ("not", sentence))))))


class Whole(unittest.TestCase):
    def tried(self, many, number, most=4):
        """Worlds and sentences of rooms that the judge can take."""
        dice = dice_of(number)
        found = []
        while len(found) < many:
            world = some_world(dice, most, dice.randint(0, 3))
            sentence = of_rooms(dice)
            try:
                rooms_of(world, sentence)
            except TooMany:
                continue
            found.append((world, sentence))
        return found

    def test_papers_are_let_by_and_tell_the_rooms(self):
        for world, sentence in self.tried(60, 301):
            paper = judged(world, sentence)
            self.assertIs(lets_by(world, sentence, paper), True)
            self.assertIs(lets_by(world, sentence, copy.deepcopy(paper)), True)
            for place, entry in enumerate(paper):
                for room in range(world.many()):
                    # A paper with a room more or less is not let by.
                    rooms = sorted(set(entry[0]) ^ {room})
                    runs = {one: entry[1].get(one, ([], [room])) for one in rooms}
                    other = paper[:place] + [(rooms, runs) + entry[2:]] + paper[place + 1:]
                    self.assertIs(lets_by(world, sentence, other), False)

    def test_a_sentence_and_its_shorter_one_are_judged_alike(self):
        for world, sentence in self.tried(120, 302):
            short = shorter(sentence)
            self.assertEqual(rooms_of(world, short), rooms_of(world, sentence))
            self.assertEqual(is_kept(world, short), is_kept(world, sentence))
            self.assertEqual(way_against(world, short) is None, way_against(world, sentence) is None)

    def test_a_way_and_its_shorter_one(self):
        dice = dice_of(303)
        for _ in range(200):
            world = some_world(dice, 4)
            sentence = some_sentence(dice, 4)
            run = some_run(dice, world)
            core, short = core_of(sentence), core_of(shorter(sentence))
            self.assertLessEqual(size_of(short), size_of(core))
            self.assertEqual(read_along(world, run, short, [], 20), read_along(world, run, core, [], 20))

    def test_a_world_and_its_smaller_one_keep_the_same(self):
        dice = dice_of(304)
        for world, sentence in self.tried(80, 305, 3):
            great = unrolled(dice, world, 2)[0]
            less, rooms = smaller(great)
            try:
                wanted = rooms_of(great, sentence)
            except TooMany:
                continue
            there = rooms_of(less, sentence)
            self.assertEqual(wanted, [room for room in range(great.many()) if rooms[room] in there])
            self.assertEqual(is_kept(great, sentence), is_kept(less, sentence))
            self.assertEqual(is_kept(world, sentence), is_kept(less, sentence))
            self.assertEqual(way_against(great, sentence) is None, way_against(less, sentence) is None)
            for here, other in compared(world, great)[1]:
                self.assertEqual(here in rooms_of(world, sentence), other in wanted)

    def test_both_judges(self):
        dice = dice_of(306)
        tried = 0
        while tried < 150:
            world = some_world(dice, 5, dice.randint(0, 3))
            sentence = some_branch(dice, 3)
            try:
                wanted = rooms_of(world, sentence)
            except TooMany:
                continue
            tried += 1
            self.assertEqual(rooms_by_sets(world, sentence), wanted)
            self.assertEqual(rooms_by_sets(world, shorter(sentence)), wanted)

    def test_a_way_that_keeps_a_sentence_is_none_against_it(self):
        dice = dice_of(307)
        told = {"kept": 0, "closed": 0}
        while min(told.values()) < 40:
            sentence = some_sentence(dice, 3, ("not", "next", "until", "always", "ever", "and", "or"))
            try:
                answer = shortest(sentence, ["a", "b", "c"])
            except TooMany:
                continue
            told[answer[0]] += 1
            world = world_of_all(["a", "b", "c"])
            # Against its not there is a way just where some way keeps it.
            self.assertEqual(way_against(world, ("not", sentence)) is None, answer[0] == "closed")
            self.assertEqual(rooms_of(world, ("some", sentence)) == [], answer[0] == "closed")

    def test_a_desk_and_the_functions(self):
        for world, sentence in self.tried(60, 308):
            desk = Desk()
            self.assertEqual(desk.say("world\n" + show_world(world)), "ok")
            text = show(sentence)
            self.assertEqual(desk.say("kept " + text), "yes" if is_kept(world, sentence) else "no")
            self.assertEqual(desk.say("rooms " + text), " ".join(map(str, rooms_of(world, sentence))) or "none")
            self.assertEqual(desk.say("rooms " + desk.say("shorter " + text)), desk.say("rooms " + text))
            again = Desk()
            self.assertEqual(again.say("world\n" + desk.say("smaller")), "ok")
            self.assertEqual(again.say("kept " + text), desk.say("kept " + text))
            self.assertEqual(again.say("smaller"), desk.say("smaller"))
            self.assertEqual(as_lists(read_world(again.say("smaller"))), as_lists(smaller(world)[0]))
            self.assertEqual(read_sentence(desk.say("shorter " + text)), shorter(sentence))

    def test_machines_are_judged(self):
        # Two that may go in, never at once, as a third one has one key.
        asks = [Machine([["out" + name], ["in" + name]], [(0, "take" + name, 1), (1, "give" + name, 0)], 0) for name in "ab"]
        key = Machine([["key"], []], [(0, "take" + name, 1) for name in "ab"] + [(1, "give" + name, 0) for name in "ab"], 0)
        world, places = beside(asks + [key], [])
        self.assertEqual(places, [(0, 0, 0), (1, 0, 1), (0, 1, 1)])
        never = ("all", ("always", ("not", ("and", (("sign", "ina"), ("sign", "inb"))))))
        self.assertTrue(is_kept(world, never))
        served = ("all", ("always", ("ever", ("sign", "ina"))))
        self.assertFalse(is_kept(world, served))
        self.assertEqual(way_against(world, served[1]), ([], [0, 2]))
        self.assertTrue(is_kept(beside(asks + [key], ["ina", "inb"])[0], served))
        self.assertEqual(turns(world, YES, ("sign", "ina")), {0: 1, 1: 0, 2: 2})
        self.assertEqual(fair_rooms(world), [0, 1, 2])


class TheSameEachTime(unittest.TestCase):
    def test_worlds_made_of_the_same_lists(self):
        dice = dice_of(309)
        tried = 0
        while tried < 30:
            world = some_world(dice, 4, dice.randint(0, 3))
            other = some_world(dice, 4, 0)
            other = World(*as_lists(other)[:3], world.fair_signs())
            sentence, branch = of_rooms(dice), some_branch(dice, 2)
            again, more = World(*as_lists(world)), World(*as_lists(other))
            try:
                told = judged(world, sentence), way_against(world, sentence)
            except TooMany:
                continue
            tried += 1
            self.assertEqual((judged(again, sentence), way_against(again, sentence)), told)
            self.assertEqual(rooms_by_sets(again, branch), rooms_by_sets(world, branch))
            self.assertEqual(compared(again, more), compared(world, other))
            self.assertEqual(turns(again, A, branch), turns(world, A, branch))
            tie = compared(world, world)[1]
            self.assertIs(is_tie(again, again, tie), True)
            self.assertEqual(as_lists(smaller(again)[0]), as_lists(smaller(world)[0]))
            self.assertEqual(smaller(again)[1], smaller(world)[1])


class Interface(unittest.TestCase):
    def test_names_and_arguments(self):
        wanted = {
            rooms_by_sets: ["world", "sentence"], turns: ["world", "one", "other"], fair_rooms: ["world"],
            compared: ["one", "other"], is_tie: ["one", "other", "pairs"], smaller: ["world"],
            shortest: ["sentence", "signs"], world_of_all: ["signs"], shorter: ["sentence"],
            Machine: ["signs", "moves", "start", "words"], beside: ["machines", "fair"], show: ["sentence"],
            read_sentence: ["text"], Desk: [], Desk.say: ["self", "text"], read: ["world", "run", "core", "sets"],
            read_along: ["world", "run", "core", "sets", "many"],
        }
        for thing, names in wanted.items():
            self.assertEqual(list(inspect.signature(thing).parameters), names)
        self.assertIsNone(inspect.signature(Machine).parameters["words"].default)


if __name__ == "__main__":
    unittest.main()

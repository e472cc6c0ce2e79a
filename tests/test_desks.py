"""The desk [27]."""

import unittest

from plainly import THINGS, dice_of, some_branch, some_sentence, some_world
from timecourt.cores import core_of
from timecourt.desks import Desk
from timecourt.errors import BadSentence, BadWorld, NoLine, NoText, NoWorld, TimeError, TooMany
from timecourt.judges import is_kept, rooms_of, way_against
from timecourt.reading import read
from timecourt.runs import first_room, is_fair, is_run
from timecourt.shorter import shorter
from timecourt.smaller import smaller
from timecourt.texts import read_sentence, show
from timecourt.worlds import World
from timecourt.worldtexts import show_world

# From room 0 on to 1 and to the ring 2; 1 leads back, or to the ring 3 4.
SIGNS = [[], ["a"], ["b"], ["a", "b"], ["c"]]
WAYS = [[1, 2], [0, 3], [2], [4], [3]]
WORLD = World(SIGNS, WAYS, [0], [])
TEXT = show_world(WORLD)
SMALL = "room a\nroom\nways 1\nways 0\nstarts 0\nfair"

ASKING = ("kept a", "rooms a", "against a", "smaller")


def desk_with(text):
    desk = Desk()
    desk.say("world\n" + text)
    return desk


class Answers(unittest.TestCase):
    def test_a_world(self):
        self.assertEqual(Desk().say("world\n" + TEXT), "ok")
        self.assertEqual(Desk().say("world\nroom\nways 0\nstarts 0\nfair"), "ok")

    def test_kept(self):
        desk = desk_with(TEXT)
        for text, answer in (("yes", "yes"), ("not yes", "no"), ("a", "no"), ("not a", "yes"), ("some next a", "yes"),
                             ("all next ( or a b )", "yes"), ("all ever b", "no"), ("( and some ever c some always not c )", "yes")):
            self.assertEqual(desk.say("kept " + text), answer, text)
        self.assertEqual(desk_with("room a\nroom\nways 1\nways 0\nstarts 0 1\nfair").say("kept a"), "no")

    def test_rooms(self):
        desk = desk_with(TEXT)
        for text, answer in (("yes", "0 1 2 3 4"), ("not yes", "none"), ("c", "4"), ("a", "1 3"), ("some next a", "0 1 4"),
                             ("all always b", "2"), ("all ever ( a until c )", "3 4"), ("( and )", "0 1 2 3 4"), ("( or )", "none")):
            self.assertEqual(desk.say("rooms " + text), answer, text)

    def test_against(self):
        desk = desk_with(SMALL)
        self.assertEqual(desk.say("against a"), "none")
        self.assertEqual(desk.say("against always ever a"), "none")
        self.assertEqual(desk.say("against not a"), "; 0 1")
        self.assertEqual(desk.say("against always a"), "; 0 1")
        desk = desk_with("room a\nroom\nways 1\nways 1\nstarts 0\nfair")
        self.assertEqual(desk.say("against always a"), "0 ; 1")
        self.assertEqual(desk.say("against some next a"), "0 ; 1")
        self.assertEqual(desk.say("against ever not a"), "none")
        # No fair way begins: there is none against anything.
        self.assertEqual(desk_with("room a\nroom\nways 1\nways 1\nstarts 0\nfair a").say("against not yes"), "none")

    def test_smaller(self):
        self.assertEqual(desk_with(SMALL).say("smaller"), SMALL)
        self.assertEqual(desk_with("room\nroom a\nroom\nways 1\nways 0 2\nways 1\nstarts 2\nfair z a").say("smaller"),
                         "room\nroom a\nways 1\nways 0\nstarts 0\nfair z a")

    def test_shorter(self):
        for desk in (Desk(), desk_with(SMALL)):
            for text, answer in (("a", "a"), ("not not a", "a"), ("always always a", "always a"), ("( and a yes )", "a"), ("( or )", "not yes"),
                                 ("( a until yes )", "yes"), ("some not not a", "some not not a"), ("ever always ever ( and a b )",
                                                                                                    "always ever ( and a b )"),
                                 ("( not not a within 2 b )", "( a within 2 b )")):
                self.assertEqual(desk.say("shorter " + text), answer)

    def test_a_new_world_takes_the_place_of_the_old_one(self):
        desk = desk_with(TEXT)
        self.assertEqual(desk.say("rooms a"), "1 3")
        self.assertEqual(desk.say("world\n" + SMALL), "ok")
        self.assertEqual(desk.say("rooms a"), "0")

    def test_desks_by_turns(self):
        one, other = desk_with(TEXT), desk_with(SMALL)
        for _ in range(3):
            self.assertEqual((one.say("rooms a"), other.say("rooms a")), ("1 3", "0"))
            self.assertEqual((one.say("kept a"), other.say("kept a")), ("no", "yes"))
            self.assertEqual(other.say("shorter not not a"), "a")
            self.assertEqual(other.say("smaller"), SMALL)
        third = Desk()
        with self.assertRaises(NoWorld):
            third.say("smaller")
        self.assertEqual(one.say("smaller"), show_world(smaller(WORLD)[0]))

    def test_the_same_each_time(self):
        desk = desk_with(TEXT)
        for line in ("kept some ever c", "rooms all ever c", "against always not c", "smaller", "shorter ( or a a )"):
            first = desk.say(line)
            self.assertIs(type(first), str)
            for _ in range(3):
                self.assertEqual(desk.say(line), first)
                self.assertEqual(desk_with(TEXT).say(line), first)

    def test_against_the_functions(self):
        dice = dice_of(271)
        answered = 0
        for _ in range(150):
            world = some_world(dice, 5, dice.randint(0, 3))
            desk = desk_with(show_world(world))
            self.assertEqual(desk.say("smaller"), show_world(smaller(world)[0]))
            sentence = some_branch(dice, 2) if dice.randrange(2) else some_sentence(dice, 3)
            text = show(sentence)
            self.assertEqual(desk.say("shorter " + text), show(shorter(sentence)))
            for word, ask in (("kept", is_kept), ("rooms", rooms_of), ("against", way_against)):
                try:
                    wanted = ask(world, sentence)
                except TimeError as error:
                    with self.assertRaises(type(error)):
                        desk.say(f"{word} {text}")
                    continue
                answered += 1
                told = desk.say(f"{word} {text}")
                if word == "kept":
                    self.assertEqual(told, "yes" if wanted else "no")
                elif word == "rooms":
                    self.assertEqual(told, " ".join(map(str, wanted)) or "none")
                elif wanted is None:
                    self.assertEqual(told, "none")
                else:
                    way, ring = [[int(room) for room in half.split()] for half in told.split(";")]
                    self.assertEqual((way, ring), wanted)
                    self.assertEqual(told, " ".join([str(room) for room in way] + [";"] + [str(room) for room in ring]))
                    self.assertTrue(is_run(world, (way, ring)) and is_fair(world, (way, ring)))
                    self.assertIn(first_room((way, ring)), world.begins())
        self.assertGreater(answered, 200)

    def test_a_way_against_by_the_reading(self):
        desk = desk_with(TEXT)
        for text in ("always not c", "ever b", "( not a until c )", "always ever a", "next a"):
            told = desk.say("against " + text)
            way, ring = [[int(room) for room in half.split()] for half in told.split(";")]
            sentence = read_sentence("not " + text)
            self.assertTrue(is_run(WORLD, (way, ring)))
            self.assertEqual(first_room((way, ring)), 0)
            self.assertIs(read(WORLD, (way, ring), core_of(sentence), []), True)


class Refused(unittest.TestCase):
    def refused(self, error, desk, text):
        with self.subTest(text=text):
            with self.assertRaises(error) as caught:
                desk.say(text)
            self.assertIs(type(caught.exception), error)

    def test_what_is_no_such_text(self):
        for desk in (Desk(), desk_with(SMALL)):
            for text in ("", " ", "\n", "a", "kept", "rooms", "against", "shorter", "world", "kept\na", "rooms\n", "world a", "world " + SMALL,
                         "world \n" + SMALL, " world\n" + SMALL, "worlds\n" + SMALL, SMALL, "KEPT a", "Kept a", "ROOMS a", "Against a",
                         "SMALLER", "Smaller", "SHORTER a", "WORLD\n" + SMALL, "smaller ", " smaller", "smaller\n", "smaller a", " kept a",
                         "  kept a", "kepta", "keptt a", "room a", "rooms\ta", "kept-a", "yes", "ok", "none", "kept\n a", "smallers", "say a",
                         "\nsmaller", "shorter\na", "shorter\n a", "world", "world\t" + SMALL, "fair a", "judge a"):
                self.refused(NoLine, desk, text)

    def test_other_kinds(self):
        for desk in (Desk(), desk_with(SMALL)):
            for thing in THINGS + (b"smaller", ["smaller"], ("kept", "a"), ("yes",), 7, [b"kept a"]):
                self.refused(NoLine, desk, thing)

    def test_no_world(self):
        for line in ASKING + ("kept not", "rooms ", "against  a", "kept next a", "kept ", "rooms (", "against ?", "kept a\nb"):
            self.refused(NoWorld, Desk(), line)

    def test_as_the_stages_refuse(self):
        desk = desk_with(SMALL)
        for word in ("kept", "rooms", "against", "shorter"):
            for text in ("", " a", "a ", "  a", "not", "( a", "A", "a\n", "a\nb", "( a within 6 b )", "until", "( a until b", "kept a"):
                self.refused(NoText, desk, f"{word} {text}")
                if word == "shorter":
                    self.refused(NoText, Desk(), f"{word} {text}")
        for word in ("kept", "rooms"):
            for text in ("next a", "always a", "( a until b )", "not ever a", "( and a next a )", "before a"):
                self.refused(BadSentence, desk, f"{word} {text}")
            self.refused(TooMany, desk, f"{word} some ( and ( a within 5 b ) ( b within 5 a ) )")
            self.refused(BadSentence, desk, f"{word} ( and next a some ( and ( a within 5 b ) ( b within 5 a ) ) )")
        self.refused(TooMany, desk, "against next next next next next next next next next a")
        self.assertEqual(desk.say("against next next next next next next next next a"), "none")

    def test_worlds(self):
        for desk in (Desk(), desk_with(SMALL)):
            for text in ("", " ", "room", SMALL + "\n", " " + SMALL, SMALL + " ", "room a\nways 00\nstarts 0\nfair", "world\n" + SMALL,
                         SMALL.upper(), "room a a\nways 0\nstarts 0\nfair"):
                self.refused(NoText, desk, "world\n" + text)
            for text in ("room a\nways 1\nstarts 0\nfair", "room\nways\nstarts 0\nfair", "room\nways 0\nstarts\nfair",
                         "room\nways 0\nstarts 0\nfair a b c d", "room\nways 0\nstarts 1\nfair", "starts\nfair"):
                self.refused(BadWorld, desk, "world\n" + text)

    def test_what_is_refused_changes_nothing(self):
        lines = ("kept a", "rooms a", "against not a", "smaller", "shorter not not a")
        desk = desk_with(SMALL)
        before = [desk.say(line) for line in lines]
        for text in ("world\n", "world\nroom a\nways 1\nstarts 0\nfair", "world\n" + TEXT + "\n", "world", "kept", "kept next a", "rooms (",
                     "smaller ", "against", "shorter", "shorter not", "world\nroom\nways 0\nstarts 0\nfair a a"):
            with self.assertRaises(TimeError):
                desk.say(text)
            self.assertEqual([desk.say(line) for line in lines], before)
        empty = Desk()
        for text in ("world\n", "world\nroom a\nways 1\nstarts 0\nfair", "kept a", "other"):
            with self.assertRaises(TimeError):
                empty.say(text)
            for line in ASKING:
                self.refused(NoWorld, empty, line)
        self.assertEqual(empty.say("world\n" + SMALL), "ok")
        self.assertEqual(empty.say("rooms a"), "0")


if __name__ == "__main__":
    unittest.main()

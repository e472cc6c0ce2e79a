"""Worlds' texts [6]."""

import copy
import unittest

from timecourt.errors import BadWorld, NoText
from timecourt.worlds import World
from timecourt.worldtexts import read_world, show_world

GOOD = "room a b\nroom\nroom ab\nways 0 1 2\nways 2\nways 1 2\nstarts 0 2\nfair b a"


def told(world):
    rooms = range(world.many())
    return ([world.signs_of(room) for room in rooms], [world.ways_on(room) for room in rooms],
            world.begins(), world.fair_signs())


def text_of_one(signs="", ways=" 0", starts=" 0", fair=""):
    """The text of one room, each line with what stands behind its first word."""
    return f"room{signs}\nways{ways}\nstarts{starts}\nfair{fair}"


def text_of_rooms(many, signs=""):
    return "\n".join(["room" + signs] * many + ["ways 0"] * many + ["starts 0", "fair"])


class Shown(unittest.TestCase):
    def test_one_room_with_nothing(self):
        self.assertEqual(show_world(World([[]], [[0]], [0], [])), "room\nways 0\nstarts 0\nfair")

    def test_a_few_rooms_from_lists_in_no_order(self):
        world = World([["b", "a"], [], ["ab"]], [[2, 0, 1], [2], [2, 1]], [2, 0], ["b", "a"])
        self.assertEqual(show_world(world), GOOD)

    def test_numbers_of_two_figures_rise_as_numbers(self):
        world = World([[] for _ in range(20)], [[10, 9, 19, 2]] + [[0]] * 19, [19, 10, 0, 9], ["z", "y", "x"])
        lines = ["room"] * 20 + ["ways 2 9 10 19"] + ["ways 0"] * 19 + ["starts 0 9 10 19", "fair z y x"]
        self.assertEqual(show_world(world), "\n".join(lines))

    def test_signs_rise_as_texts(self):
        world = World([["b", "ab", "a", "z", "aa"]], [[0]], [0], [])
        self.assertEqual(show_world(world), text_of_one(signs=" a aa ab b z"))

    def test_the_same_each_time_and_the_world_is_not_changed(self):
        world = World([["b", "a"]], [[0]], [0], ["b", "a"])
        before = told(world)
        self.assertEqual(show_world(world), show_world(world))
        self.assertEqual(told(world), before)


class Read(unittest.TestCase):
    def refused(self, text, refusal):
        with self.subTest(text=text):
            with self.assertRaises(refusal) as caught:
                read_world(text)
            self.assertIs(type(caught.exception), refusal)

    def no_text(self, *texts):
        for text in texts:
            self.refused(text, NoText)

    def bad_world(self, *texts):
        for text in texts:
            self.refused(text, BadWorld)

    def again(self, text):
        with self.subTest(text=text):
            world = read_world(text)
            self.assertIsInstance(world, World)
            self.assertEqual(show_world(world), text)

    def test_a_text_is_read(self):
        self.assertEqual(told(read_world(GOOD)),
                         ([["a", "b"], [], ["ab"]], [[0, 1, 2], [2], [1, 2]], [0, 2], ["b", "a"]))
        self.assertEqual(told(read_world("room\nways 0\nstarts 0\nfair")), ([[]], [[0]], [0], []))

    def test_texts_are_read_and_shown_the_same(self):
        self.again(GOOD)
        self.again(text_of_one())
        self.again(text_of_one(signs=" a abcdefgh stuvwxyz z", fair=" z abcdefgh m"))
        for many in (1, 2, 3, 10, 11, 19, 20):
            self.again(text_of_rooms(many))
            self.again(text_of_rooms(many, " a b"))
        twenty = " ".join([str(room) for room in range(20)])
        self.again("\n".join(["room"] * 20 + ["ways " + twenty] * 20 + ["starts " + twenty, "fair"]))

    def test_worlds_are_shown_and_read_the_same(self):
        for lists in ([[["b", "a"], ["c"]], [[1, 0], [0]], [1, 0], ["c", "b", "a"]],
                      [[[]], [[0]], [0], ["far"]],
                      [[["room"], ["ways"], ["fair", "starts"]], [[2], [1], [0]], [1], ["room", "fair"]]):
            before = copy.deepcopy(lists)
            world = World(*lists)
            self.assertEqual(told(read_world(show_world(world))), told(world))
            self.assertEqual(lists, before)

    def test_worlds_that_are_read_are_apart(self):
        one, other = read_world(GOOD), read_world(GOOD)
        one.signs_of(0).append("new")
        one.begins().clear()
        self.assertEqual(told(one), told(other))
        self.assertEqual(show_world(one), GOOD)

    def test_the_lines_first_words_may_be_signs(self):
        self.again(text_of_one(signs=" fair room starts ways", fair=" ways fair room"))

    def test_other_kinds(self):
        self.no_text(None, True, False, 0, 7, b"", GOOD.encode("ascii"), [], [GOOD], (), (GOOD,), {}, {GOOD: 1},
                     GOOD.split("\n"), World([[]], [[0]], [0], []), object(), len)

    def test_lines_too_many_or_too_few(self):
        lines = GOOD.split("\n")
        for place in range(len(lines)):
            self.no_text("\n".join(lines[:place] + lines[place + 1:]))
            self.no_text("\n".join(lines[:place] + [lines[place]] + lines[place:]))
            self.no_text("\n".join(lines[:place] + [""] + lines[place:]))
        self.no_text(GOOD + "\n", "\n" + GOOD, GOOD + "\n\n", GOOD + "\n" + GOOD, "", "\n", "\n\n", "\n\n\n", " ")
        self.no_text("room", "ways 0", "starts 0", "fair", "room\nways 0", "room\nways 0\nstarts 0", "ways 0\nstarts 0\nfair",
                     "room\nstarts 0\nfair", "room\nways 0\nfair", "starts 0", "room\nroom\nways 0\nstarts 0\nfair",
                     "room\nways 0\nways 0\nstarts 0\nfair")

    def test_lines_in_another_order(self):
        self.no_text("ways 0\nroom\nstarts 0\nfair", "room\nstarts 0\nways 0\nfair", "room\nways 0\nfair\nstarts 0",
                     "fair\nroom\nways 0\nstarts 0", "starts 0\nroom\nways 0\nfair",
                     "room\nways 0\nroom\nways 0\nstarts 0\nfair", "room a\nways 0\nroom b\nways 1\nstarts 0\nfair")

    def test_lines_with_other_first_words(self):
        for old, others in (("room", ("", "rooms", "Room", "ROOM", "roo", "a")), ("ways", ("", "way", "Ways", "0")),
                            ("starts", ("", "start", "Starts", "0")), ("fair", ("", "Fair", "fai", "fairs"))):
            for other in others:
                self.no_text(text_of_one().replace(old, other))

    def test_blanks_too_many_or_too_few(self):
        for place, sign in enumerate(GOOD):
            self.no_text(GOOD[:place] + " " + GOOD[place:] if sign in " \n" else GOOD[:place] + "  " + GOOD[place:])
        self.no_text(GOOD + " ", " " + GOOD, GOOD.replace("\n", " "), GOOD.replace(" ", "\n"), GOOD.replace("\n", "\n "),
                     GOOD.replace("\n", " \n"), GOOD.replace("\n", ""), GOOD.replace("\n", "\n\n"))
        self.no_text("room \nways 0\nstarts 0\nfair", "room\nways 0 \nstarts 0\nfair", "room\nways  0\nstarts 0\nfair",
                     "room\nways 0\nstarts  0\nfair", "room\nways 0\nstarts 0\nfair ", "room\nways 0\nstarts 0\n fair",
                     "room\nways0\nstarts 0\nfair", "room\nways 0\nstarts0\nfair", "rooma\nways 0\nstarts 0\nfair",
                     "room\nways 0\nstarts 0\nfaira", "room\nways \nstarts 0\nfair", "room\nways 0\nstarts \nfair",
                     "room\nways 0\nstarts 0\nfair  a", "room a  b\nways 0\nstarts 0\nfair")
        for blank in (",", "  ", ";", "_"):
            self.no_text(f"room{blank}a\nways 0\nstarts 0\nfair", f"room\nways{blank}0\nstarts 0\nfair",
                         f"room a{blank}b\nways 0\nstarts 0\nfair", f"room\nways 0\nstarts 0\nfair a{blank}b")

    def test_words_of_another_kind(self):
        self.no_text(text_of_one(signs=" 0"), text_of_one(ways=" a"), text_of_one(ways=" 0 a"), text_of_one(starts=" a"),
                     text_of_one(starts=" 0 a"), text_of_one(fair=" 0"), text_of_one(fair=" a 0"))

    def test_signs_that_are_no_names(self):
        for name in ("abcdefghi", "A", "aB", "a1", "1", "a_", "a-b", "-", "a,", "[a]", "'a'", "`", "{"):
            self.no_text(text_of_one(signs=" " + name), text_of_one(signs=" a " + name), text_of_one(fair=" " + name),
                         text_of_one(fair=" a " + name))
        for name in ("a", "z", "abcdefgh", "zzzzzzzz"):
            self.again(text_of_one(signs=" " + name))
            self.again(text_of_one(fair=" " + name))

    def test_numbers_with_a_nought_ahead(self):
        for number in ("00", "000000", "01", "001", "000001", "010"):
            self.no_text(text_of_one(ways=" " + number), text_of_one(starts=" " + number))
            self.no_text(text_of_rooms(20).replace("ways 0", "ways " + number))
        self.again(text_of_one(ways=" 0", starts=" 0"))
        self.again(text_of_rooms(11).replace("starts 0", "starts 1 10"))

    def test_numbers_of_one_to_six_figures(self):
        for number in ("1", "9", "10", "100", "1000", "10000", "100000", "999999"):
            self.bad_world(text_of_one(ways=" " + number), text_of_one(starts=" " + number))
            self.bad_world(text_of_one(ways=" 0 " + number), text_of_one(starts=" 0 " + number))
        for number in ("1000000", "9999999", "0000000", "0000001", "10000000", "9" * 100, "9" * 5000):
            self.no_text(text_of_one(ways=" " + number), text_of_one(starts=" " + number))
            self.no_text(text_of_one(ways=" 0 " + number), text_of_one(starts=" 0 " + number))

    def test_numbers_by_figures_alone(self):
        for number in ("-1", "-0", "+0", "+1", "1_0", "0_0", "0x1", "0b1", "1.", "0.0", "1e1", "True", "False", "O", "l", "/",
                       ":", "[0]", "0,"):
            self.no_text(text_of_rooms(20).replace("ways 0", "ways " + number))
            self.no_text(text_of_rooms(20).replace("starts 0", "starts " + number))

    def test_signs_that_do_not_rise(self):
        self.no_text(text_of_one(signs=" b a"), text_of_one(signs=" a c b"), text_of_one(signs=" ab a"),
                     text_of_one(signs=" a a"), text_of_one(signs=" a b b"), text_of_one(signs=" b aa"),
                     text_of_one(signs=" a b a"), GOOD.replace("room a b", "room b a"), GOOD.replace("room ab", "room b ab"))
        self.again(text_of_one(signs=" a aa ab b"))

    def test_ways_and_starts_that_do_not_rise(self):
        for numbers in ("1 0", "0 2 1", "10 9", "10 2", "0 0", "0 1 1", "1 0 1", "2 10 9"):
            self.no_text(text_of_rooms(20).replace("ways 0", "ways " + numbers))
            self.no_text(text_of_rooms(20).replace("starts 0", "starts " + numbers))
        lines = GOOD.split("\n")
        lines[5] = "ways 2 1"
        self.no_text("\n".join(lines))
        for numbers in ("0 1", "1 2", "9 10", "2 10", "0 1 2 9 10 11 19"):
            self.again(text_of_rooms(20).replace("ways 0", "ways " + numbers))
            self.again(text_of_rooms(20).replace("starts 0", "starts " + numbers))

    def test_fair_in_any_order(self):
        for fair in ("", " a", " b a", " a b", " c a b", " b c a", " c b a", " a b c", " ab a"):
            self.again(text_of_one(fair=fair))

    def test_written_so_and_no_world(self):
        self.bad_world(text_of_one(ways=""), text_of_one(starts=""), text_of_one(ways=" 1"), text_of_one(starts=" 1"),
                       text_of_one(ways=" 0 1"), text_of_one(starts=" 0 1"))
        self.bad_world(text_of_one(fair=" a b c d"), text_of_one(fair=" a a"), text_of_one(fair=" a b a"))
        self.bad_world(text_of_rooms(21), text_of_rooms(22), text_of_rooms(50), text_of_rooms(0), "starts\nfair")
        self.bad_world(text_of_rooms(20).replace("starts 0", "starts 20"), text_of_rooms(20).replace("ways 0", "ways 20"))
        self.again(text_of_rooms(20).replace("starts 0", "starts 19"))

    def test_not_written_so_goes_ahead_of_no_world(self):
        self.no_text(text_of_one(ways="", fair=" A"), text_of_one(signs=" b a", ways=" 7"), text_of_one(ways=" 7 6"),
                     text_of_one(starts="", fair=" a b c d E"), text_of_one(ways=" 1", starts=" 00"),
                     text_of_rooms(21, " b a"), text_of_rooms(21) + "\n", text_of_rooms(21) + " 1",
                     text_of_one(ways="", starts="") + " ")


if __name__ == "__main__":
    unittest.main()

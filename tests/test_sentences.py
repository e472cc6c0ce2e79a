"""Sentences and their kinds [7]."""

import unittest

from plainly import THINGS, chain
from timecourt.cores import core_of
from timecourt.errors import BadSentence
from timecourt.sentences import kind_of

YES = ("yes",)
ROOM = ("sign", "a")
WAY = ("next", ROOM)

ROOMS = (YES, ROOM, ("all", ROOM), ("some", ROOM), ("all", WAY), ("some", WAY), ("all", YES),
         ("some", ("all", ("some", ("ever", WAY)))))

WAYS = (WAY, ("next", WAY), ("until", ROOM, ROOM), ("until", WAY, WAY), ("always", ROOM), ("ever", ROOM),
        ("within", 0, ROOM, ROOM), ("within", 5, WAY, ROOM), ("before", ROOM), ("since", ROOM, ROOM), ("once", ROOM),
        ("sofar", ROOM), ("next", ("all", ROOM)), ("sofar", ("some", WAY)))


class Kinds(unittest.TestCase):
    def kind(self, kind, *sentences):
        for sentence in sentences:
            with self.subTest(sentence=sentence):
                self.assertEqual(kind_of(sentence), kind)

    def test_of_rooms(self):
        self.kind("room", *ROOMS)

    def test_of_ways(self):
        self.kind("way", *WAYS)

    def test_not(self):
        for room in ROOMS:
            self.kind("room", ("not", room), ("not", ("not", room)))
        for way in WAYS:
            self.kind("way", ("not", way), ("not", ("not", way)))

    def test_and_or(self):
        for word in ("and", "or"):
            self.kind("room", (word, ()))
            for room in ROOMS:
                self.kind("room", (word, (room,)), (word, (room, YES)), (word, (YES, room, room)), (word, (room,) * 8))
                for way in WAYS:
                    self.kind("way", (word, (way,)), (word, (way, room)), (word, (room, way)), (word, (room, way, room)),
                              (word, (room, ("not", (word, (way, room))))), (word, (room,) * 7 + (way,)))
            self.kind("room", (word, ((word, ()), ("not", (word, ())))))
            self.kind("way", ("next", (word, ())))

    def test_a_quantifier_makes_it_one_of_rooms(self):
        for way in WAYS:
            self.kind("room", ("all", way), ("some", way), ("not", ("some", ("not", way))))
            self.kind("room", ("and", (("all", way), ("some", way))))
            self.kind("way", ("and", (("all", way), way)), ("ever", ("all", way)))

    def test_within_0_to_5(self):
        for turns in range(6):
            self.kind("way", ("within", turns, ROOM, ROOM), ("within", turns, WAY, ("some", WAY)))

    def test_signs_called_as_words(self):
        for name in ("yes", "sign", "all", "some", "next", "until", "always", "ever", "within", "before", "since", "once",
                     "sofar", "not", "and", "or", "room", "way"):
            self.kind("room", ("sign", name), ("not", ("sign", name)))
            self.kind("way", ("next", ("sign", name)))

    def test_names_of_one_to_eight_letters(self):
        for name in ("z", "ab", "abcdefg", "abcdefgh", "zzzzzzzz"):
            self.kind("room", ("sign", name))

    def test_twelve_deep(self):
        for word in ("not", "next", "always", "ever", "before", "once", "sofar", "all", "some"):
            kind = "room" if word in ("not", "all", "some") else "way"
            self.kind(kind, chain(word, 11), chain(word, 12))
        deep = ROOM
        for _ in range(12):
            deep = ("and", (deep, ROOM))
        self.kind("room", deep)
        self.kind("way", ("and", (deep, WAY)))

    def test_cores_that_are_deep_by_themselves(self):
        self.kind("room", chain("not", 499), chain("some", 499), chain("not", 250, chain("some", 248)))
        self.kind("way", chain("next", 499), chain("not", 498, ("before", ROOM)))
        left = right = ROOM
        for _ in range(249):
            left, right = ("and", (left, ROOM)), ("and", (ROOM, right))
        self.kind("room", left, right)


class NoSentences(unittest.TestCase):
    """What is no sentence, for both doors that refuse it."""

    def refused(self, *things):
        for thing in things:
            for door in (kind_of, core_of):
                with self.subTest(thing=thing, door=door.__name__):
                    with self.assertRaises(BadSentence) as caught:
                        door(thing)
                    self.assertIs(type(caught.exception), BadSentence)

    def refused_within(self, *things):
        """Refused by themselves, and wherever a sentence stands in another."""
        self.refused(*things)
        for thing in things:
            for word in ("not", "next", "always", "ever", "before", "once", "sofar", "all", "some"):
                self.refused((word, thing))
            for word in ("until", "since"):
                self.refused((word, thing, ROOM), (word, ROOM, thing))
            for word in ("and", "or"):
                self.refused((word, (thing,)), (word, (thing, ROOM)), (word, (ROOM, thing)), (word, (ROOM, ROOM, thing)))
            for turns in (0, 3):
                self.refused(("within", turns, thing, ROOM), ("within", turns, ROOM, thing))
            self.refused(("all", ("always", ("not", ("or", (WAY, ("some", ("until", WAY, thing))))))))

    def test_other_kinds(self):
        self.refused_within(*THINGS)

    def test_lists_in_the_place_of_tuples(self):
        self.refused_within(["yes"], ["sign", "a"], ["not", YES], ["next", ROOM], [YES], [("yes",)])
        self.refused(("and", []), ("or", []), ("and", [ROOM]), ("or", [ROOM, ROOM]), ("until", [ROOM, ROOM]))

    def test_and_or_of_no_tuple(self):
        for word in ("and", "or"):
            self.refused((word, YES), (word, ROOM), (word, ROOM, ROOM), (word, None), (word, "ab"), (word, 0), (word, {}),
                         (word,), (word, (), ()), (word, (ROOM,), (ROOM,)), (word, ROOM, (ROOM,)), (word, ((),)),
                         (word, ((ROOM,),)))

    def test_a_part_more_or_less(self):
        self.refused_within(("yes", YES), ("yes", "a"), ("yes", ()), ("sign",), ("sign", "a", "b"), ("sign", "a", YES))
        for word in ("not", "next", "always", "ever", "before", "once", "sofar", "all", "some"):
            self.refused_within((word,), (word, ROOM, ROOM), (word, ROOM, ()), (word, ()))
        for word in ("until", "since"):
            self.refused_within((word,), (word, ROOM), (word, ROOM, ROOM, ROOM), (word, (ROOM, ROOM)))
        self.refused_within(("within",), ("within", 1), ("within", 1, ROOM), ("within", ROOM, ROOM),
                            ("within", 1, ROOM, ROOM, ROOM), ("within", 1, (ROOM, ROOM)))

    def test_words_that_are_none(self):
        for word in ("", "no", "Not", "YES", "yes ", " yes", "eventually", "implies", "release", "then", "until\n", "al",
                     "signs"):
            self.refused_within((word,), (word, ROOM), (word, ROOM, ROOM), (word, (ROOM,)), (word, "a"))

    def test_other_things_in_the_word_s_place(self):
        for word in (None, True, 0, 1, b"not", b"yes", ("not",), (), ["not"], {"not": 1}, object(), len, frozenset(["not"])):
            self.refused_within((word,), (word, ROOM), (word, ROOM, ROOM))

    def test_within_of_other_numbers(self):
        for turns in (6, 7, -1, -6, 10 ** 30, True, False, "1", "", "two", None, (), (1,), [1], YES, b"1", {}, object()):
            self.refused_within(("within", turns, ROOM, ROOM))
        self.refused(("within", ROOM, ROOM, 1), ("within", ROOM, 1, ROOM))

    def test_signs_that_are_no_names(self):
        for name in ("", "abcdefghi", "A", "aB", "a1", "1", "a b", " a", "a ", "a_b", "a\n", "~", "abcdefgh\n", None, True, 0,
                     b"a", ("a",), ["a"], {"a": 1}, YES, object()):
            self.refused_within(("sign", name))

    def test_a_list_that_holds_itself(self):
        row = ["and"]
        row.append(row)
        self.refused_within(row, ("and", row), ("not", (row,)))

    def test_nothing_is_changed(self):
        inner = [ROOM, ["not", "x"]]
        self.refused(("and", inner), ("not", inner), inner)
        self.assertEqual(inner, [ROOM, ["not", "x"]])
        sentence = ("all", ("within", 2, ROOM, ("or", (WAY, YES))))
        kind_of(sentence)
        self.assertEqual(sentence, ("all", ("within", 2, ("sign", "a"), ("or", (("next", ("sign", "a")), ("yes",))))))

    def test_a_refusal_changes_nothing(self):
        for _ in range(2):
            self.refused(("next", None))
            self.assertEqual(kind_of(WAY), "way")
            self.assertEqual(kind_of(ROOM), "room")


if __name__ == "__main__":
    unittest.main()

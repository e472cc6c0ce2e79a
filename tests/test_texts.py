"""Sentences as texts [26]."""

import unittest

from plainly import ONE, THINGS, TWO, chain, dice_of, some_sentence
from timecourt.errors import BadSentence, NoText
from timecourt.sentences import kind_of
from timecourt.texts import read_sentence, show

YES = ("yes",)
A, B, C = [("sign", name) for name in "abc"]
ALL_WORDS = ONE + TWO + ("and", "or", "within", "all", "some")
RESERVED = ("yes", "not", "next", "always", "ever", "before", "once", "sofar", "all", "some", "until", "since", "within", "and", "or")

PAIRS = [
    ("yes", YES),
    ("a", A),
    ("abcdefgh", ("sign", "abcdefgh")),
    ("sign", ("sign", "sign")),
    ("not yes", ("not", YES)),
    ("next a", ("next", A)),
    ("always a", ("always", A)),
    ("ever a", ("ever", A)),
    ("before a", ("before", A)),
    ("once a", ("once", A)),
    ("sofar a", ("sofar", A)),
    ("all next a", ("all", ("next", A))),
    ("some a", ("some", A)),
    ("( a until b )", ("until", A, B)),
    ("( a since b )", ("since", A, B)),
    ("( a within 0 b )", ("within", 0, A, B)),
    ("( a within 5 b )", ("within", 5, A, B)),
    ("( and )", ("and", ())),
    ("( or )", ("or", ())),
    ("( and a )", ("and", (A,))),
    ("( or a )", ("or", (A,))),
    ("( and a b )", ("and", (A, B))),
    ("( or a b c )", ("or", (A, B, C))),
    ("( and a a a a a a a a )", ("and", (A,) * 8)),
    ("not not not a", ("not", ("not", ("not", A)))),
    ("not ( a until b )", ("not", ("until", A, B))),
    ("( not a until next b )", ("until", ("not", A), ("next", B))),
    ("( ( a since b ) until ( b within 2 a ) )", ("until", ("since", A, B), ("within", 2, B, A))),
    ("( not ( and ) within 3 ( or not a ( and b ) ) )", ("within", 3, ("not", ("and", ())), ("or", (("not", A), ("and", (B,)))))),
    ("all always ( or not req some ( yes until ack ) )",
     ("all", ("always", ("or", (("not", ("sign", "req")), ("some", ("until", YES, ("sign", "ack")))))))),
    ("( and ( and ) ( or ( and a ) ) yes )", ("and", (("and", ()), ("or", (("and", (A,)),)), YES))),
    ("( sofar once before a until always ever all some b )",
     ("until", ("sofar", ("once", ("before", A))), ("always", ("ever", ("all", ("some", B)))))),
]

WRONG = [
    "", " ", "  ", "A", "Yes", "YES", "a1", "1", "0", "abcdefghi", "a b", "yes yes", "not", "not ", " not a", "not  a", "not a ",
    "next", "not next", "a not", "( )", "()", "(", ")", "( a", "a )", "( a )", "(a until b)", "( a until b", "a until b",
    "a until b )", "( a until )", "( until b )", "( until )", "( a until b ) )", "( ( a until b ) )", "( ( a until b )",
    "( a until b c )", "( a b until c )", "( a until until b )", "( a until b until c )", "( a until since b )", "( a and b )",
    "( a or b )", "( and", "and", "and )", "and a b", "( and a", "( and a b ) c", "( and and )", "( and or )", "( or and a )",
    "( and a or b )", "( and a until b )", "( and 1 )", "( and a 1 )", "( a within b )", "( a within 6 b )", "( a within 05 b )",
    "( a within -1 b )", "( a within +1 b )", "( a within 1 )", "( within 1 a b )", "( a 1 within b )", "( a within a b )",
    "( a within 1 2 b )", "( a within 1 b c )", "( a within 10 b )", "( a within 1.0 b )", "( a within yes b )", "( a within within b )",
    "within", "until", "since", "or", "( not until b )", "( a until not )", "( not )", "not )", "not ( )", "( and not )",
    "( a  until b )", "( a until b )  ", " ( a until b )", "(  a until b )", "( a until  b )", "( a until b  )", "a\n", "\na", "not\na",
    "( a until\nb )", "a\nb", "[ a until b ]", "{ and }", "( a UNTIL b )", "( AND a )", "( And )", "all", "some", "all some",
    "yes not", "( a until b ) c", "( a until b ) until", "( yes", "sign a", "( sign a )", "a,", "'a'", "-", "_", "( a until b ; )",
    "( and ( )", "( and ) )", "( ( and ) )", "( ( ) and )", "not ( a until b ) )", "( a ) until ( b )", "a _b", "~",
]


class Texts(unittest.TestCase):
    def test_each_word(self):
        for text, sentence in PAIRS:
            with self.subTest(text=text):
                self.assertEqual(show(sentence), text)
                self.assertEqual(read_sentence(text), sentence)
                kind_of(read_sentence(text))

    def test_in_one_another(self):
        for _, one in PAIRS:
            for _, other in PAIRS[::5]:
                for sentence in (("not", one), ("until", one, other), ("within", 4, other, one), ("and", (other, one, one)),
                                 ("or", (one,)), ("all", ("next", one))):
                    self.assertEqual(read_sentence(show(sentence)), sentence)
                    self.assertEqual(show(read_sentence(show(sentence))), show(sentence))

    def test_many(self):
        dice = dice_of(261)
        for _ in range(600):
            sentence = some_sentence(dice, dice.randint(0, 5), ALL_WORDS)
            text = show(sentence)
            self.assertIs(type(text), str)
            self.assertRegex(text, r"^[^ ]+( [^ ]+)*$")
            self.assertEqual(read_sentence(text), sentence)

    def test_each_sentence_in_one_way(self):
        """Texts with a word changed, away or more: what is read at all is written just so."""
        dice = dice_of(262)
        pool = list(RESERVED) + ["(", ")", "a", "b", "", "0", "5", "6", "05"]
        read = 0
        for _ in range(3000):
            words = show(some_sentence(dice, 3, ALL_WORDS)).split(" ")
            place = dice.randrange(len(words))
            change = dice.randrange(4)
            if change == 0:
                words[place] = dice.choice(pool)
            elif change == 1:
                del words[place]
            elif change == 2:
                words.insert(place, dice.choice(pool))
            else:
                words.append(dice.choice(pool))
            text = " ".join(words)
            try:
                sentence = read_sentence(text)
            except NoText:
                continue
            read += 1
            self.assertEqual(show(sentence), text)
        self.assertGreater(read, 300)

    def test_deep_ones(self):
        deep = chain("not", 499)
        self.assertEqual(show(deep), "not " * 499 + "a")
        back = read_sentence("not " * 499 + "a")
        for _ in range(499):
            self.assertEqual((back[0], len(back)), ("not", 2))
            back = back[1]
        self.assertEqual(back, A)
        deep = B
        for _ in range(240):
            deep = ("and", (A, deep))
        text = "( and a " * 240 + "b" + " )" * 240
        self.assertEqual(show(deep), text)
        self.assertEqual(show(read_sentence(text)), text)
        text = "( " * 240 + "a" + " until b )" * 240
        self.assertEqual(show(read_sentence(text)), text)

    def test_the_same_each_time(self):
        for text, sentence in PAIRS:
            self.assertEqual(show(sentence), show(sentence))
            self.assertEqual(read_sentence(text), read_sentence(text))


class Refused(unittest.TestCase):
    def refused(self, error, ask, thing):
        with self.subTest(thing=thing):
            with self.assertRaises(error) as caught:
                ask(thing)
            self.assertIs(type(caught.exception), error)

    def test_what_is_no_text(self):
        for text in WRONG:
            self.refused(NoText, read_sentence, text)

    def test_each_text_with_a_word_too_many_or_too_few(self):
        for text, _ in PAIRS:
            for wrong in (text + " ", " " + text, text + " )", "( " + text, "( " + text + " )", text + " a", text + " yes",
                          text + "\n", text.upper(), text.replace(" ", "  ") + " ", text + " ("):
                self.refused(NoText, read_sentence, wrong)
            if " " in text:
                self.refused(NoText, read_sentence, text.rpartition(" ")[0])
                self.refused(NoText, read_sentence, text.replace(" ", "  "))
                self.refused(NoText, read_sentence, text.replace(" ", "\n"))

    def test_other_kinds_are_no_text(self):
        for thing in THINGS + (YES, A, ("not", A), ["not", "a"], b"a", 5, [["yes"]]):
            if not isinstance(thing, str):
                self.refused(NoText, read_sentence, thing)

    def test_what_is_no_sentence_is_not_shown(self):
        for thing in THINGS + (("sign", "A"), ("sign",), ("not",), ("and", [A]), ("and", A), ("within", 6, A, B), ("within", "1", A, B),
                               ("within", True, A, B), ("other", A), ["yes"], ("not", "a"), ("until", A), ("and", (A, None))):
            self.refused(BadSentence, show, thing)

    def test_signs_called_as_a_word(self):
        for word in RESERVED:
            sign = ("sign", word)
            for sentence in (sign, ("not", sign), ("until", A, sign), ("and", (A, sign)), ("some", ("next", sign)),
                             ("within", 0, sign, A)):
                self.refused(NoText, show, sentence)
            self.refused(BadSentence, show, ("and", (sign, None)))
            self.refused(BadSentence, show, ("until", sign, ("sign", "A")))
            # A word with a letter more is a sign like others.
            longer = word + "x"
            self.assertEqual(show(("sign", longer)), longer)
            self.assertEqual(read_sentence(longer), ("sign", longer))


if __name__ == "__main__":
    unittest.main()

"""Sentences made shorter [24, 3]."""

import unittest

from plainly import ONE, THINGS, TWO, chain, dice_of, slowly, some_run, some_sentence, some_world
from timecourt.cores import core_of, inner_parts, size_of
from timecourt.errors import BadSentence, TooMany
from timecourt.judges import rooms_of
from timecourt.reading import read, read_along
from timecourt.sentences import kind_of
from timecourt.shorter import shorter

YES = ("yes",)
NEVER = ("not", YES)
A, B, C = [("sign", name) for name in "abc"]
WORDS = ONE + TWO + ("and", "or", "within")
ALL_WORDS = WORDS + ("all", "some")


def no(w):
    return ("not", w)


def both(*inner):
    return ("and", inner)


def either(*inner):
    return ("or", inner)


def always(w):
    return ("always", w)


def ever(w):
    return ("ever", w)


# What is told the same, line by line, for each w.
LINES = [
    (lambda w: no(no(w)), lambda w: w),
    (lambda w: both(w, w), lambda w: w),
    (lambda w: either(w, w), lambda w: w),
    (lambda w: both(w, YES), lambda w: w),
    (lambda w: both(YES, w), lambda w: w),
    (lambda w: either(w, NEVER), lambda w: w),
    (lambda w: either(NEVER, w), lambda w: w),
    (lambda w: always(always(w)), always),
    (lambda w: ever(ever(w)), ever),
    (lambda w: ever(always(ever(w))), lambda w: always(ever(w))),
    (lambda w: always(ever(always(w))), lambda w: ever(always(w))),
    (lambda w: ("until", w, YES), lambda w: YES),
    (lambda w: either(w, YES), lambda w: YES),
    (lambda w: either(YES, w), lambda w: YES),
    (lambda w: ("until", w, NEVER), lambda w: NEVER),
    (lambda w: both(w, NEVER), lambda w: NEVER),
    (lambda w: both(NEVER, w), lambda w: NEVER),
]

SIMPLE = (
    YES, NEVER, A, no(A), no(no(A)), both(), either(), both(A), either(A), both(A, B), either(A, B), both(A, B, C),
    either(A, B, A), ("next", A), ("until", A, B), always(A), ever(A), always(ever(A)), ever(always(A)), no(always(A)),
    no(ever(A)), ("before", A), ("before", YES), ("since", A, B), ("once", A), ("sofar", A), ("within", 0, A, B),
    ("within", 2, A, B), ("within", 1, A, YES), ("some", A), ("all", ("next", A)), ("some", no(no(A))),
    ("until", YES, A), no(("until", YES, no(A))), always(no(ever(A))), ever(no(always(A))),
)

# Sentences in which another one stands.
ROUND = (
    lambda w: w, no, always, ever, lambda w: ("next", w), lambda w: ("before", w), lambda w: ("once", w),
    lambda w: ("sofar", w), lambda w: ("until", w, B), lambda w: ("until", B, w), lambda w: ("since", w, B),
    lambda w: ("since", B, w), lambda w: ("within", 2, w, B), lambda w: ("within", 2, B, w), lambda w: both(B, w),
    lambda w: either(w, B, w), lambda w: both(w), lambda w: either(ever(w), A, no(w)),
)


def somes_with_sets(dice, world, core):
    """Any sets for the somes of a core."""
    somes = [part for part in inner_parts(core) if part[0] == "some"]
    return [(some, [room for room in range(world.many()) if dice.randrange(2)]) for some in somes]


class ToldTheSame(unittest.TestCase):
    def same(self, one, other):
        self.assertEqual(shorter(one), shorter(other), (one, other))

    def test_each_line(self):
        for one, other in LINES:
            for w in SIMPLE:
                self.same(one(w), other(w))

    def test_each_line_within_others(self):
        for one, other in LINES:
            for outer in ROUND:
                for w in SIMPLE:
                    self.same(outer(one(w)), outer(other(w)))

    def test_each_line_for_long_ones(self):
        dice = dice_of(241)
        for _ in range(150):
            w = some_sentence(dice, 4, ALL_WORDS)
            for one, other in LINES:
                self.same(one(w), other(w))

    def test_lines_within_lines(self):
        for one, other in LINES:
            for more, less in LINES:
                for w in (A, NEVER, ever(A), both(A, B)):
                    self.same(one(more(w)), other(less(w)))

    def test_yes_and_not_yes_by_every_word(self):
        self.assertEqual(shorter(YES), YES)
        self.assertEqual(shorter(NEVER), NEVER)
        self.assertEqual(shorter(no(NEVER)), YES)
        for truth in (YES, NEVER):
            for sentence in (("next", truth), always(truth), ever(truth), ("until", A, truth), ("until", YES, truth),
                             ("until", NEVER, truth), both(truth, truth), either(truth, truth), both(truth), either(truth),
                             both(YES, truth), either(truth, NEVER), no(no(truth)), always(ever(truth)),
                             ("next", ("next", ever(truth))), both(YES, truth, YES), either(NEVER, truth, NEVER)):
                self.assertEqual(shorter(sentence), truth, sentence)
        for sentence in (either(A, YES), either(YES, A), either(A, B, YES), either(NEVER, YES), either(YES, NEVER)):
            self.assertEqual(shorter(sentence), YES)
        for sentence in (both(A, NEVER), both(NEVER, A), both(A, NEVER, B), both(NEVER, YES), both(YES, NEVER)):
            self.assertEqual(shorter(sentence), NEVER)

    def test_ands_and_ors_of_none_of_one_and_of_many(self):
        self.assertEqual(shorter(both()), YES)
        self.assertEqual(shorter(either()), NEVER)
        self.assertEqual(shorter(both(A)), A)
        self.assertEqual(shorter(either(A)), A)
        self.assertEqual(shorter(both(A, B, C)), both(A, B, C))
        self.assertEqual(shorter(either(C, B, A)), either(C, B, A))
        self.assertEqual(shorter(both(A, B, A)), both(A, B))
        self.assertEqual(shorter(either(A, no(no(A)))), A)
        self.assertEqual(shorter(both(either(), A)), NEVER)

    def test_what_is_left(self):
        self.assertEqual(shorter(always(no(no(ever(both(A, YES)))))), always(ever(A)))
        self.assertEqual(shorter(ever(always(ever(always(A))))), ever(always(A)))
        self.assertEqual(shorter(("within", 3, both(A, A), no(no(B)))), ("within", 3, A, B))
        self.assertEqual(shorter(("since", either(A, NEVER), both(YES, B))), ("since", A, B))
        self.assertEqual(shorter(("before", YES)), ("before", YES))
        self.assertEqual(shorter(("sign", "abc")), ("sign", "abc"))


class Quantified(unittest.TestCase):
    def test_they_stay_as_they_stand(self):
        for w in SIMPLE + tuple(one(A) for one, _ in LINES):
            for word in ("all", "some"):
                self.assertEqual(shorter((word, w)), (word, w))
                self.assertEqual(shorter(no(no((word, w)))), (word, w))
                self.assertEqual(shorter(always(always((word, ("next", w))))), always((word, ("next", w))))
                self.assertEqual(shorter((word, ("next", (word, no(no(w)))))), (word, ("next", (word, no(no(w))))))

    def test_like_ones_are_like(self):
        some = ("some", no(no(A)))
        self.assertEqual(shorter(both(some, some)), some)
        self.assertEqual(shorter(both(some, ("some", A))), both(some, ("some", A)))
        self.assertEqual(shorter(both(("some", A), ("all", A))), both(("some", A), ("all", A)))

    def test_such_as_differ_in_a_number_alone(self):
        one, other = [("some", ("within", turns, A, B)) for turns in (2, 3)]
        self.assertEqual(shorter(both(one, other)), both(one, other))
        self.assertEqual(shorter(either(one, other, one)), either(one, other))
        one, other = [("within", turns, A, B) for turns in (2, 3)]
        self.assertEqual(shorter(both(one, other)), both(one, other))
        one, other = [("some", (word, (A, B))) for word in ("and", "or")]
        self.assertEqual(shorter(both(one, other)), both(one, other))


class ReadAlike(unittest.TestCase):
    def held(self, dice, sentence):
        short = shorter(sentence)
        self.assertIn(kind_of(short), ("room", "way"))
        self.assertLessEqual(size_of(core_of(short)), size_of(core_of(sentence)))
        self.assertEqual(shorter(short), short)
        for _ in range(3):
            world = some_world(dice, 4)
            run = some_run(dice, world)
            sets = somes_with_sets(dice, world, core_of(sentence))
            wanted = read_along(world, run, core_of(sentence), sets, 12)
            self.assertEqual(read_along(world, run, core_of(short), sets, 12), wanted, (sentence, short))
            self.assertIs(read(world, run, core_of(short), sets), wanted[0])
        return short

    def test_simple_ones(self):
        dice = dice_of(242)
        for w in SIMPLE:
            for outer in ROUND:
                self.held(dice, outer(w))
            for one, _ in LINES:
                self.held(dice, one(w))

    def test_many(self):
        dice = dice_of(243)
        less = 0
        for _ in range(700):
            sentence = some_sentence(dice, dice.randint(1, 5), ALL_WORDS)
            if size_of(core_of(sentence)) <= 2000:
                less += self.held(dice, sentence) != sentence
        self.assertGreater(less, 200)

    def test_by_the_slow_reading(self):
        dice = dice_of(244)
        for _ in range(200):
            sentence = some_sentence(dice, 3, WORDS)
            world = some_world(dice, 4)
            run = some_run(dice, world)
            self.assertEqual(slowly(world, run, shorter(sentence), [], 8), slowly(world, run, sentence, [], 8))

    def test_judged_alike(self):
        dice = dice_of(245)
        tried = 0
        while tried < 150:
            world = some_world(dice, 3, dice.randint(0, 2))
            sentence = (dice.choice(("all", "some")), shorter(some_sentence(dice, 3, ALL_WORDS)))
            longer = (sentence[0], no(no(both(sentence[1], YES))))
            try:
                wanted = rooms_of(world, longer)
            except TooMany:
                continue
            tried += 1
            self.assertEqual(rooms_of(world, sentence), wanted)

    def test_twelve_deep(self):
        dice = dice_of(246)
        for words in (("not", "always", "ever", "next"), ("once", "sofar", "before", "not"), ("always", "ever")):
            for _ in range(20):
                sentence = A
                for _ in range(12):
                    sentence = (dice.choice(words), sentence)
                self.held(dice, sentence)
        self.assertEqual(shorter(chain("not", 12)), A)
        self.assertEqual(shorter(chain("always", 12)), always(A))
        self.assertEqual(shorter(chain("next", 12)), chain("next", 12))
        deep = A
        for _ in range(10):
            deep = both(deep, deep)
        self.assertEqual(shorter(deep), A)

    def test_deep_cores(self):
        self.assertEqual(shorter(chain("not", 499)), no(A))
        deep = A
        for _ in range(166):
            deep = ("and", (deep, no(YES)))
        self.assertEqual(shorter(deep), NEVER)
        deep = B
        for _ in range(160):
            deep = ("and", (A, ("next", deep)))
        short = shorter(both(deep, deep))
        # Deeper than tuples can be held against one another.
        for _ in range(160):
            self.assertEqual((short[0], short[1][0], short[1][1][0]), ("and", A, "next"))
            short = short[1][1][1]
        self.assertEqual(short, B)
        self.assertEqual(shorter(chain("next", 400, NEVER)), NEVER)


class Refused(unittest.TestCase):
    def test_what_is_no_sentence(self):
        for thing in THINGS + (("yes", 1), ("sign", "A"), ("not",), ("not", A, A), ("and", [A]), ("and", A), ("within", 6, A, B),
                               ("within", True, A, B), ("always", "a"), ["always", A], ("some", None), ("all", ("next",)),
                               ("or", (YES, None)), ("and", (NEVER, 1)), ("until", ("other",), YES), ("next", NEVER, A),
                               both(NEVER, ("some", ("not", ("sign", 1))))):
            with self.subTest(thing=thing):
                with self.assertRaises(BadSentence) as caught:
                    shorter(thing)
                self.assertIs(type(caught.exception), BadSentence)


if __name__ == "__main__":
    unittest.main()

"""Cores, their parts and their sizes [8]."""

import unittest

from plainly import ONE, TWO, chain, dice_of, some_sentence
from timecourt.cores import core_of, inner_parts, parts_of, size_of
from timecourt.sentences import kind_of

YES = ("yes",)
A, B, C, D = [("sign", name) for name in "abcd"]
ALL_WORDS = ONE + TWO + ("and", "or", "within", "all", "some")
CORE_WORDS = {"yes", "sign", "not", "and", "next", "until", "before", "since", "some"}


def no(core):
    return ("not", core)


def both(one, other):
    return ("and", (one, other))


def either(one, other):
    return no(both(no(one), no(other)))


def plain_core(sentence):
    """The core by the rules of the point, rule by rule."""
    word, *inner = sentence
    if word in ("yes", "sign"):
        return sentence
    if word == "and":
        if len(inner[0]) == 0:
            return YES
        if len(inner[0]) == 1:
            return plain_core(inner[0][0])
        return both(plain_core(inner[0][0]), plain_core(("and", inner[0][1:])))
    if word == "or":
        if len(inner[0]) == 0:
            return no(YES)
        if len(inner[0]) == 1:
            return plain_core(inner[0][0])
        return either(plain_core(inner[0][0]), plain_core(("or", inner[0][1:])))
    if word == "within":
        turns, w, v = inner
        if turns == 0:
            return plain_core(v)
        return plain_core(("or", (v, ("and", (w, ("next", ("within", turns - 1, w, v)))))))
    if word == "all":
        return no(("some", no(plain_core(inner[0]))))
    if word == "ever":
        return ("until", YES, plain_core(inner[0]))
    if word == "always":
        return no(("until", YES, no(plain_core(inner[0]))))
    if word == "once":
        return ("since", YES, plain_core(inner[0]))
    if word == "sofar":
        return no(("since", YES, no(plain_core(inner[0]))))
    return (word,) + tuple(plain_core(one) for one in inner)


def within_core(core):
    word, *inner = core
    if word in ("yes", "sign"):
        return ()
    return inner[0] if word == "and" else tuple(inner)


def all_parts(core, into_somes=True):
    """Each part as often as it stands, inner ones ahead, the left one first."""
    found = []
    if into_somes or core[0] != "some":
        for one in within_core(core):
            found += all_parts(one, into_somes)
    return found + [core]


def each_once(things):
    return list(dict.fromkeys(things))


class Cores(unittest.TestCase):
    def core(self, sentence, core):
        with self.subTest(sentence=sentence):
            self.assertEqual(core_of(sentence), core)

    def test_what_is_a_core_already(self):
        for core in (YES, A, no(A), both(A, B), ("next", A), ("until", A, B), ("before", A), ("since", A, B), ("some", A),
                     no(no(A)), no(YES), both(YES, YES), both(A, both(B, C)), both(both(A, B), C),
                     ("some", ("until", no(A), both(("before", A), ("some", ("since", YES, B))))), ("sign", "until")):
            self.core(core, core)

    def test_and(self):
        self.core(("and", ()), YES)
        self.core(("and", (A,)), A)
        self.core(("and", (A, B)), both(A, B))
        self.core(("and", (A, B, C)), both(A, both(B, C)))
        self.core(("and", (A, B, C, D)), both(A, both(B, both(C, D))))
        self.core(("and", (YES, no(A))), both(YES, no(A)))
        self.core(("and", (("and", ()), ("and", (B,)))), both(YES, B))

    def test_or(self):
        self.core(("or", ()), no(YES))
        self.core(("or", (A,)), A)
        self.core(("or", (A, B)), no(both(no(A), no(B))))
        self.core(("or", (A, B, C)), no(both(no(A), no(no(both(no(B), no(C)))))))
        self.core(("or", (A, B, C, D)), either(A, either(B, either(C, D))))
        self.core(("or", (no(A), YES)), no(both(no(no(A)), no(YES))))

    def test_and_or_of_eight(self):
        signs = tuple(("sign", name) for name in "abcdefgh")
        self.core(("and", signs), plain_core(("and", signs)))
        self.core(("or", signs), plain_core(("or", signs)))
        self.assertEqual(size_of(core_of(("and", signs))), 15)
        self.assertEqual(size_of(core_of(("or", signs))), 8 + 7 * 4)

    def test_quantifiers(self):
        self.core(("some", A), ("some", A))
        self.core(("all", A), no(("some", no(A))))
        self.core(("all", no(A)), no(("some", no(no(A)))))
        self.core(("all", ("some", ("all", A))), no(("some", no(("some", no(("some", no(A))))))))

    def test_ahead(self):
        self.core(("ever", A), ("until", YES, A))
        self.core(("always", A), no(("until", YES, no(A))))
        self.core(("always", no(A)), no(("until", YES, no(no(A)))))
        self.core(("ever", ("always", A)), ("until", YES, no(("until", YES, no(A)))))
        self.core(("until", ("ever", A), ("or", ())), ("until", ("until", YES, A), no(YES)))

    def test_back(self):
        self.core(("once", A), ("since", YES, A))
        self.core(("sofar", A), no(("since", YES, no(A))))
        self.core(("since", ("once", A), ("sofar", B)), ("since", ("since", YES, A), no(("since", YES, no(B)))))
        self.core(("before", ("or", (A,))), ("before", A))

    def test_within(self):
        self.core(("within", 0, A, B), B)
        one = either(B, both(A, ("next", B)))
        self.core(("within", 1, A, B), one)
        two = either(B, both(A, ("next", one)))
        self.core(("within", 2, A, B), two)
        wanted = B
        for turns in range(6):
            self.core(("within", turns, A, B), wanted)
            self.assertEqual(size_of(wanted), 1 + 8 * turns)
            wanted = either(B, both(A, ("next", wanted)))
        self.core(("within", 0, ("always", A), ("ever", B)), ("until", YES, B))
        self.core(("within", 1, ("or", ()), ("ever", B)),
                  either(("until", YES, B), both(no(YES), ("next", ("until", YES, B)))))

    def test_signs_called_as_words(self):
        for name in ("yes", "and", "or", "all", "within", "ever", "sofar"):
            self.core(("sign", name), ("sign", name))
            self.core(("ever", ("sign", name)), ("until", YES, ("sign", name)))

    def test_many_by_the_rules(self):
        dice = dice_of(8)
        for _ in range(300):
            sentence = some_sentence(dice, 4, ALL_WORDS)
            core = core_of(sentence)
            self.assertEqual(core, plain_core(sentence), sentence)
            self.assertEqual(core_of(core), core)
            if kind_of(sentence) == "room":
                self.assertEqual(kind_of(core), "room")
            self.assertLessEqual({part[0] for part in parts_of(core)}, CORE_WORDS)

    def test_twelve_deep(self):
        for word in ("always", "sofar", "all", "not", "next"):
            self.core(chain(word, 12), plain_core(chain(word, 12)))
        self.core(chain("always", 12), chain_of_always(12))

    def test_nothing_is_changed(self):
        sentence = ("all", ("or", (A, ("within", 1, A, B), ("ever", C))))
        first = core_of(sentence)
        self.assertEqual(sentence, ("all", ("or", (A, ("within", 1, A, B), ("ever", C)))))
        self.assertEqual(core_of(sentence), first)


def chain_of_always(many):
    core = A
    for _ in range(many):
        core = no(("until", YES, no(core)))
    return core


class Parts(unittest.TestCase):
    def test_parts_of_each_word(self):
        for core, parts in ((YES, [YES]), (A, [A]), (no(A), [A, no(A)]), (both(A, B), [A, B, both(A, B)]),
                            (("next", A), [A, ("next", A)]), (("until", B, A), [B, A, ("until", B, A)]),
                            (("before", A), [A, ("before", A)]), (("since", B, A), [B, A, ("since", B, A)]),
                            (("some", A), [A, ("some", A)])):
            with self.subTest(core=core):
                self.assertEqual(parts_of(core), parts)
                self.assertEqual(size_of(core), len(parts))
                self.assertEqual(inner_parts(core), parts[1:] if core[0] == "some" else parts)

    def test_parts_that_stand_twice(self):
        self.assertEqual(parts_of(both(A, A)), [A, both(A, A)])
        self.assertEqual(size_of(both(A, A)), 3)
        core = ("until", both(B, A), both(A, no(both(B, A))))
        self.assertEqual(parts_of(core), [B, A, both(B, A), no(both(B, A)), both(A, no(both(B, A))), core])
        self.assertEqual(size_of(core), 10)
        self.assertEqual(inner_parts(core), parts_of(core))

    def test_parts_that_differ_by_their_order(self):
        core = both(("until", A, B), ("until", B, A))
        self.assertEqual(parts_of(core), [A, B, ("until", A, B), ("until", B, A), core])
        core = both(("since", A, B), ("until", A, B))
        self.assertEqual(parts_of(core), [A, B, ("since", A, B), ("until", A, B), core])

    def test_what_is_in_a_some_is_its_part_and_no_inner_one(self):
        some = ("some", ("next", A))
        core = both(some, B)
        self.assertEqual(parts_of(core), [A, ("next", A), some, B, core])
        self.assertEqual(inner_parts(core), [some, B, core])
        self.assertEqual(size_of(core), 5)

    def test_what_is_in_a_some_and_beside_it(self):
        some = ("some", ("next", A))
        core = both(both(some, ("next", A)), some)
        self.assertEqual(parts_of(core), [A, ("next", A), some, both(some, ("next", A)), core])
        self.assertEqual(inner_parts(core), [some, A, ("next", A), both(some, ("next", A)), core])
        self.assertEqual(size_of(core), 10)

    def test_somes_within_somes(self):
        inner = ("some", ("until", A, B))
        middle = ("some", both(inner, C))
        core = ("before", both(middle, inner))
        self.assertEqual(parts_of(core), [A, B, ("until", A, B), inner, C, both(inner, C), middle, both(middle, inner), core])
        self.assertEqual(inner_parts(core), [middle, inner, both(middle, inner), core])
        self.assertEqual(inner_parts(middle), [middle])
        self.assertEqual(inner_parts(middle[1]), [inner, C, middle[1]])

    def test_many_by_the_words(self):
        dice = dice_of(9)
        for _ in range(300):
            core = core_of(some_sentence(dice, 4, ALL_WORDS))
            parts = all_parts(core)
            self.assertEqual(parts_of(core), each_once(parts))
            self.assertEqual(size_of(core), len(parts))
            self.assertEqual(inner_parts(core), each_once(all_parts(core, False)))

    def test_a_size_near_two_thousand(self):
        great = ("within", 5, ("within", 5, ("within", 1, C, A), B), ("within", 5, B, ("within", 4, C, D)))
        sentence = ("and", (great, ("within", 5, ("within", 1, A, B), ("within", 1, C, D))))
        core = core_of(sentence)
        self.assertEqual(core, plain_core(sentence))
        parts = all_parts(core)
        self.assertTrue(1900 < len(parts) <= 2000, len(parts))
        self.assertEqual(size_of(core), len(parts))
        self.assertEqual(parts_of(core), each_once(parts))
        self.assertEqual(inner_parts(core), each_once(parts))

    def test_a_wide_core_of_nearly_two_thousand(self):
        core = A
        for _ in range(10):
            core = both(core, core)
        core = no(no(core))
        self.assertEqual(size_of(core), 2049)
        self.assertEqual(len(parts_of(core)), 13)
        self.assertEqual(core_of(core), core)

    def test_cores_that_are_deep_by_themselves(self):
        for word in ("not", "next", "before", "some"):
            core = chain(word, 499)
            self.assertEqual(size_of(core), 500)
            parts = parts_of(core)
            self.assertEqual(len(parts), 500)
            self.assertEqual(parts[:3], [A, (word, A), (word, (word, A))])
            self.assertTrue(parts[-1] == core)
            self.assertTrue(core_of(core) == core)
            self.assertEqual(len(inner_parts(core)), 1 if word == "some" else 500)
        left = right = A
        for _ in range(249):
            left, right = ("until", left, B), ("since", B, right)
        for core in (left, right):
            self.assertEqual(size_of(core), 499)
            self.assertEqual(len(parts_of(core)), 251)
            self.assertEqual(len(inner_parts(core)), 251)
            self.assertTrue(core_of(core) == core)

    def test_two_words_round_a_deep_core(self):
        deep = chain("not", 499)
        core = core_of(("all", ("always", deep)))
        self.assertTrue(core == no(("some", no(no(("until", YES, no(deep)))))))
        self.assertEqual(size_of(core), 507)
        self.assertEqual(len(inner_parts(core)), 2)

    def test_lists_are_new_each_time(self):
        core = both(("some", A), no(B))
        for told in (parts_of, inner_parts):
            first = told(core)
            kept = list(first)
            first.append("more")
            first[0] = None
            self.assertEqual(told(core), kept)
            self.assertIsNot(told(core), told(core))
        self.assertEqual(core, ("and", (("some", ("sign", "a")), ("not", ("sign", "b")))))

    def test_asked_by_turns(self):
        one, other = both(A, B), ("until", B, no(A))
        for _ in range(2):
            self.assertEqual(parts_of(one), [A, B, one])
            self.assertEqual(parts_of(other), [B, A, no(A), other])
            self.assertEqual(size_of(one), 3)
            self.assertEqual(size_of(other), 4)


if __name__ == "__main__":
    unittest.main()

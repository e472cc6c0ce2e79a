"""Ties of two worlds: whether they are alike, or else a sentence that parts them."""

from timecourt.cores import and_of
from timecourt.errors import OtherFair
from timecourt.plain import is_room


def is_tie(one, other, pairs):
    """Whether a list of pairs of rooms is a tie of two worlds."""
    if not isinstance(pairs, list) or not all([is_pair(one, other, pair) for pair in pairs]):
        return False
    tied = {pair: True for pair in pairs}
    return all([is_tied(one, other, tied, pair) for pair in pairs])


def is_pair(one, other, thing):
    """Whether a thing is a tuple of a room of the one world and a room of the other."""
    if not isinstance(thing, tuple) or len(thing) != 2:
        return False
    return is_room(thing[0], one.many()) and is_room(thing[1], other.many())


def is_tied(one, other, tied, pair):
    """Whether all that a tie asks of a pair of it holds."""
    here, there = pair
    if one.signs_of(here) != other.signs_of(there):
        return False
    mine = one.ways_on(here)
    yours = other.ways_on(there)
    if not all([any([(room, more) in tied for more in yours]) for room in mine]):
        return False
    return all([any([(room, more) in tied for room in mine]) for more in yours])


def compared(one, other):
    """The greatest tie of two worlds that are alike, or a sentence that parts them."""
    if sorted(one.fair_signs()) != sorted(other.fair_signs()):
        raise OtherFair("these worlds have other fair signs")
    parting = Parting(one, other)
    mine = parting.codes[:one.many()]
    yours = parting.codes[one.many():]
    starts = [[mine[room] for room in one.begins()], [yours[room] for room in other.begins()]]
    found = []
    for which in (0, 1):
        others = starts[1 - which]
        found += [(which, parting.telling(code, others)) for code in starts[which] if code not in others]
    if found:
        which, asked = min(found, key=lambda pair: pair[1][0])
        return ("parted", which, asked[1])
    return ("alike", [(room, more) for room in range(one.many()) for more in range(other.many())
                      if mine[room] == yours[more]])


class Parting:
    """The rooms of two worlds, those of the other one behind, and tests that part all that no tie ties.

    A test is a core of rooms, read without fair signs. A room's code has the bit of each test that is so in it;
    rooms with the same code are tied.
    """

    def __init__(self, one, other):
        many = one.many()
        signs = [one.signs_of(room) for room in range(many)] + [other.signs_of(room) for room in range(other.many())]
        self.ways = [one.ways_on(room) for room in range(many)]
        self.ways += [[many + further for further in other.ways_on(room)] for room in range(other.many())]
        self.codes = [0 for names in signs]
        self.tests = []
        self.sizes = []
        for name in sorted({name for names in signs for name in names}):
            self.take_test(1, ("sign", name), [name in names for names in signs])
        while self.part_further():
            pass

    def take_test(self, size, core, truths):
        """Takes a test of a size, where it parts rooms that no other one parts; truths has one for each room."""
        both = list(zip(self.codes, truths))
        if len(set(both)) == len(set(self.codes)):
            return
        bit = 1 << len(self.tests)
        self.codes = [code | bit if truth else code for code, truth in both]
        # Both are kept, as each part of the sentences told is to be made once.
        self.tests.append((("not", core), core))
        self.sizes.append((size + 1, size))

    def part_further(self):
        """Takes tests of what is one room further, small ones first; tells whether there was one to take."""
        codes = list(self.codes)
        found = [self.test_ahead(codes, code, list(others)) for code, others in self.unlike_ahead()]
        for size, core, truths in sorted(found, key=lambda test: test[0]):
            self.take_test(size, core, truths)
        return self.codes != codes

    def unlike_ahead(self):
        """Of rooms with the same code: a code to which one leads, with those, all others, to which another one does."""
        ahead = [tuple(sorted({self.codes[further] for further in ways})) for ways in self.ways]
        rows = sorted(set(list(zip(self.codes, ahead))))
        return sorted({(code, theirs) for alike, mine in rows for same, theirs in rows if alike == same
                       for code in mine if code not in theirs})

    def test_ahead(self, codes, code, others):
        """A test that is so in rooms that lead to a code, and not in those that lead to the others alone."""
        size, core, asked = self.telling(code, others)
        truths = [any([(codes[further] ^ code) & asked == 0 for further in ways]) for ways in self.ways]
        return (size + 2, ("some", ("next", core)), truths)

    def telling(self, code, others):
        """A core that is so by a code and by none of the others: its size, itself, and the bits of its tests."""
        left = list(others)
        chosen = []
        while left:
            chosen.append(self.best_test(code, left))
            left = [other for other in left if bit_of(other, chosen[-1]) == bit_of(code, chosen[-1])]
        # The greatest one first: only what stands last is put deeper by the ands.
        rows = sorted([(self.sizes[test][bit_of(code, test)], test) for test in chosen], reverse=True)
        core = and_of([self.tests[test][bit_of(code, test)] for size, test in rows])
        return (sum([size + 1 for size, test in rows]) - 1, core, sum([1 << test for test in chosen]))

    def best_test(self, code, others):
        """The test that, for its size, tells a code from the most of the others."""
        found = []
        for test in range(len(self.tests)):
            gain = len([other for other in others if bit_of(other, test) != bit_of(code, test)])
            if gain > 0:
                found.append((self.sizes[test][bit_of(code, test)] * len(others) // gain, test))
        return min(found)[1]


def bit_of(code, test):
    """The bit of a test in a code."""
    return (code >> test) & 1

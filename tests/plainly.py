"""What the tests share: slow readings by the words of the document, and samples of worlds and sentences."""

import itertools
import random

from timecourt.worlds import World

NAMES = ["a", "b", "c"]

# Things that are no sentence, no paper, no rank and no loop.
THINGS = (None, True, False, 0, 1, -1, "", "yes", "a", b"yes", [], ["yes"], {}, {"yes": 1}, (), ((),), (None,), (0,),
          set(), frozenset(), object(), len, int, range(3))


def room_at(run, place):
    way, ring = run
    return way[place] if place < len(way) else ring[(place - len(way)) % len(ring)]


def looks_back(sentence):
    """How many words of a sentence look back, as often as they stand."""
    if not isinstance(sentence, tuple):
        return 0
    return (sentence[:1] in (("before",), ("since",), ("once",), ("sofar",))) + sum(looks_back(one) for one in sentence)


class Slow:
    """Sentences read on a run by the very words of [7], place by place, each place by itself."""

    def __init__(self, world, run, sets, sentence):
        self.world, self.run, self.sets = world, run, dict(sets)
        # From here on all comes again; so what is so later at all is so within one more round.
        self.settled = len(run[0]) + len(run[1]) * (looks_back(sentence) + 1)
        self.known = {}

    def later(self, place):
        return range(place, max(place, self.settled) + len(self.run[1]) + 1)

    def so(self, sentence, place):
        key = (sentence, place)
        if key not in self.known:
            self.known[key] = self.reckoned(sentence, place)
        return self.known[key]

    def up_to(self, places, w, v):
        """v is so at one of the places, and w at all of them ahead of it."""
        for at in places:
            if self.so(v, at):
                return True
            if not self.so(w, at):
                return False
        return False

    def reckoned(self, sentence, place):
        word, *inner = sentence
        if word == "yes":
            return True
        if word == "sign":
            return inner[0] in self.world.signs_of(room_at(self.run, place))
        if word == "some":
            return room_at(self.run, place) in self.sets[sentence]
        if word == "not":
            return not self.so(inner[0], place)
        if word == "and":
            return all(self.so(one, place) for one in inner[0])
        if word == "or":
            return any(self.so(one, place) for one in inner[0])
        if word == "next":
            return self.so(inner[0], place + 1)
        if word == "until":
            return self.up_to(self.later(place), inner[0], inner[1])
        if word == "within":
            return self.up_to(range(place, place + inner[0] + 1), inner[1], inner[2])
        if word == "always":
            return all(self.so(inner[0], at) for at in self.later(place))
        if word == "ever":
            return any(self.so(inner[0], at) for at in self.later(place))
        if word == "before":
            return place > 0 and self.so(inner[0], place - 1)
        if word == "since":
            return self.up_to(range(place, -1, -1), inner[0], inner[1])
        if word == "once":
            return any(self.so(inner[0], at) for at in range(place + 1))
        if word == "sofar":
            return all(self.so(inner[0], at) for at in range(place + 1))
        raise AssertionError(word)


def slowly(world, run, sentence, sets, many):
    slow = Slow(world, run, sets, sentence)
    return [slow.so(sentence, place) for place in range(many)]


def some_world(dice, most, fair=0):
    many = dice.randint(1, most)
    signs = [[name for name in NAMES if dice.randrange(2)] for _ in range(many)]
    ways = [dice.sample(range(many), dice.randint(1, min(many, 3))) for _ in range(many)]
    starts = dice.sample(range(many), dice.randint(1, many))
    return World(signs, ways, starts, dice.sample(NAMES, fair))


def some_run(dice, world):
    """A run from a room at hand: on and on, until a room comes again."""
    rooms = [dice.randrange(world.many())]
    while True:
        rooms.append(dice.choice(world.ways_on(rooms[-1])))
        if rooms[-1] in rooms[:-1] and dice.randrange(2):
            first = dice.choice([at for at, room in enumerate(rooms[:-1]) if room == rooms[-1]])
            return rooms[:first], rooms[first:-1]


ONE = ("not", "next", "always", "ever", "before", "once", "sofar")
TWO = ("until", "since")


def some_sentence(dice, deep, words=ONE + TWO + ("and", "or", "within")):
    """A sentence of ways without quantifiers, unless they are among the words."""
    if deep == 0 or dice.randrange(8) == 0:
        return dice.choice([("yes",)] + [("sign", name) for name in NAMES] * 2)
    word = dice.choice(words)
    if word in ("and", "or"):
        return (word, tuple(some_sentence(dice, deep - 1, words) for _ in range(dice.choice((0, 1, 2, 2, 2, 3)))))
    if word == "within":
        return (word, dice.randint(0, 3), some_sentence(dice, deep - 1, words), some_sentence(dice, deep - 1, words))
    return (word,) + tuple(some_sentence(dice, deep - 1, words) for _ in range(2 if word in TWO else 1))


def dice_of(number):
    return random.Random(number)


def chain(word, many, inner=("sign", "a")):
    """A sentence many words deep."""
    for _ in range(many):
        inner = (word, inner)
    return inner


def all_bits(many):
    return list(itertools.product((False, True), repeat=many))


def ring_world(many, signs, fair=()):
    """A world with one way, round all its rooms."""
    return World(signs, [[(room + 1) % many] for room in range(many)], [0], list(fair))


def full_world(signs, fair=()):
    """A world with ways from each room to each."""
    many = len(signs)
    return World(signs, [list(range(many)) for _ in range(many)], [0], list(fair))


def inner_once(core):
    """The inner parts of a core, each once, inner ones ahead, the left one first."""
    word, *inner = core
    found = []
    if word not in ("yes", "sign", "some"):
        for one in (inner[0] if word == "and" else inner):
            found += inner_once(one)
    return list(dict.fromkeys(found + [core]))


class SlowWishes:
    """Wish rooms by the very words of [10], [11], [12]."""

    def __init__(self, world, core, sets):
        self.world, self.core, self.sets = world, core, dict(sets)
        self.wishes = [part for part in inner_once(core) if part[0] in ("next", "until", "before", "since")]

    def so(self, node, part):
        room, bits = node
        word, *inner = part
        if word == "yes":
            return True
        if word == "sign":
            return inner[0] in self.world.signs_of(room)
        if word == "some":
            return room in self.sets[part]
        if word == "not":
            return not self.so(node, inner[0])
        if word == "and":
            return self.so(node, inner[0][0]) and self.so(node, inner[0][1])
        bit = bits[self.wishes.index(part)]
        if word in ("next", "before"):
            return bit
        return self.so(node, inner[1]) or (self.so(node, inner[0]) and bit)

    def leads(self, one, other):
        if other[0] not in self.world.ways_on(one[0]):
            return False
        for part, bit, more in zip(self.wishes, one[1], other[1]):
            if part[0] == "next" and bit != self.so(other, part[1]):
                return False
            if part[0] == "until" and bit != self.so(other, part):
                return False
            if part[0] == "before" and more != self.so(one, part[1]):
                return False
            if part[0] == "since" and more != self.so(one, part):
                return False
        return True

    def nodes(self):
        return [(room, bits) for room in range(self.world.many()) for bits in all_bits(len(self.wishes))]

    def leads_to(self, node):
        return [other for other in self.nodes() if self.leads(node, other)]

    def beginnings(self, room):
        return [node for node in self.nodes() if node[0] == room and self.so(node, self.core) and not any(
            bit for part, bit in zip(self.wishes, node[1]) if part[0] in ("before", "since"))]

    def marks(self, node):
        untils = [not self.so(node, part) or self.so(node, part[2]) for part in self.wishes if part[0] == "until"]
        return untils + [sign in self.world.signs_of(node[0]) for sign in self.world.fair_signs()]


def some_net(dice, most, marks_at_most=3):
    """A net of a few nodes with marks and begins; nodes are numbers, texts, tuples."""
    nodes = dice.sample([0, 1, 2, 3, "a", "b", (0, 1), (True, False), (0, (False, True)), None, b"x"], dice.randint(1, most))
    net = {node: [other for other in nodes if dice.random() < 0.25] for node in nodes}
    many = dice.randint(0, marks_at_most)
    marks = {node: [dice.random() < 0.5 for _ in range(many)] for node in nodes}
    return net, marks, dice.sample(nodes, dice.randint(0, min(3, len(nodes))))


def comes_from(net, begins):
    """All nodes to which one gets from the begins, themselves too."""
    found = list(dict.fromkeys(begins))
    for node in found:
        found += [further for further in dict.fromkeys(net[node]) if further not in found]
    return found


def has_full_loop(net, marks, begins):
    """Whether there is a full loop: from some node that is reached one gets back to it, and on the way round to each mark."""
    for node in comes_from(net, begins):
        round_it = comes_from(net, net[node])
        if node in round_it:
            ring = [other for other in round_it if node in comes_from(net, [other])]
            if all(any(marks[other][number] for other in ring) for number in range(len(marks[node]))):
                return True
    return False


def is_loop_by_words(net, marks, begins, way, ring):
    """[14] by its words, of lists of nodes."""
    row = way + ring
    return (len(ring) > 0 and row[0] in begins and all(two in net[one] for one, two in zip(row, row[1:] + ring[:1]))
            and all(any(marks[node][number] for node in ring) for number in range(len(marks[ring[0]]))))


def closes_by_words(net, marks, begins, ranks, lacks):
    """[16] by its words, of ranks and lacks that are dicts of nodes and numbers."""
    return (set(ranks.values()) == set(lacks)
            and all(begin in ranks for begin in begins)
            and all(further in ranks and ranks[further] <= ranks[node] for node in ranks for further in net[node])
            and not any(lacks[ranks[node]] is None and ranks[further] == ranks[node] for node in ranks for further in net[node])
            and not any(lacks[ranks[node]] is not None and marks[node][lacks[ranks[node]]] for node in ranks))


def all_runs(world, room, most):
    """All runs from a room with at most so many rooms in way and ring."""
    rows = [[room]]
    while rows:
        row = rows.pop()
        for first in range(len(row)):
            if row[first] in world.ways_on(row[-1]):
                yield row[:first], row[first:]
        if len(row) < most:
            rows += [row + [further] for further in world.ways_on(row[-1])]


def slow_loop(world, core, sets, rooms):
    """Whether a fair way begins at one of the rooms on which a core is so, by [12]."""
    slow = SlowWishes(world, core, sets)
    net = {node: slow.leads_to(node) for node in slow.nodes()}
    marks = {node: slow.marks(node) for node in slow.nodes()}
    return has_full_loop(net, marks, [node for room in rooms for node in slow.beginnings(room)])


def slow_sets(world, core):
    """The sets of all somes in a core, inner ones ahead."""
    sets = {}
    for some in somes_in(core):
        sets[some] = [room for room in range(world.many()) if slow_loop(world, some[1], list(sets.items()), [room])]
    return list(sets.items())


def somes_in(core):
    """The somes in a core, each once, inner ones ahead, the left one first."""
    if not isinstance(core, tuple):
        return []
    found = [some for one in core for some in somes_in(one)]
    return list(dict.fromkeys(found + ([core] if core[:1] == ("some",) else [])))


def slow_rooms(world, core):
    """The rooms where a core of rooms is so."""
    slow = SlowWishes(world, core, slow_sets(world, core))
    return [room for room in range(world.many()) if slow.so((room, ()), core)]


def few_wishes(world, core, most=16):
    """Whether the wish rooms of a core and of all its somes are few enough for the slow readings."""
    for one in [core] + [some[1] for some in somes_in(core)]:
        if world.many() * 2 ** len(SlowWishes(world, one, []).wishes) > most:
            return False
    return True


def some_branch(dice, deep, quantifiers=("all", "some")):
    """A sentence of branches [20]."""
    if deep == 0 or dice.randrange(8) == 0:
        return dice.choice([("yes",)] + [("sign", name) for name in NAMES] * 2)
    word = dice.choice(("not", "and", "or") + tuple(quantifiers) * 3)
    if word == "not":
        return (word, some_branch(dice, deep - 1, quantifiers))
    if word in ("and", "or"):
        return (word, tuple(some_branch(dice, deep - 1, quantifiers) for _ in range(dice.choice((0, 1, 2, 2, 3)))))
    way = dice.choice(("next", "until", "always", "ever", "within"))
    inner = tuple(some_branch(dice, deep - 1, quantifiers) for _ in range(2 if way in ("until", "within") else 1))
    return (word, (way,) + ((dice.randint(0, 3),) if way == "within" else ()) + inner)


def slow_fair_rooms(world):
    """The rooms where some fair way begins: from some room that is reached one gets round to each fair sign and back."""
    net = {room: world.ways_on(room) for room in range(world.many())}
    marks = {room: [sign in world.signs_of(room) for sign in world.fair_signs()] for room in range(world.many())}
    return [room for room in range(world.many()) if has_full_loop(net, marks, [room])]


def is_tie_by_words(one, other, pairs):
    """[21] by its words."""
    return all(one.signs_of(here) == other.signs_of(there)
               and all(any((room, more) in pairs for more in other.ways_on(there)) for room in one.ways_on(here))
               and all(any((room, more) in pairs for room in one.ways_on(here)) for more in other.ways_on(there))
               for here, there in pairs)


def slow_tie(one, other):
    """The greatest tie: all pairs, and those away at which it is none, until it is one."""
    pairs = {(here, there) for here in range(one.many()) for there in range(other.many())}
    while True:
        wrong = {(here, there) for here, there in pairs if not (
            one.signs_of(here) == other.signs_of(there)
            and all(any((room, more) in pairs for more in other.ways_on(there)) for room in one.ways_on(here))
            and all(any((room, more) in pairs for room in one.ways_on(here)) for more in other.ways_on(there)))}
        if not wrong:
            return sorted(pairs)
        pairs -= wrong


def rooms_by_hand(world, core, known=None):
    """The rooms where a core of yes, sign, not, and, some next is so, without fair signs; each part once."""
    known = {} if known is None else known
    if id(core) not in known:
        word, *inner = core
        rooms = set(range(world.many()))
        if word == "sign":
            rooms = {room for room in rooms if inner[0] in world.signs_of(room)}
        elif word == "not":
            rooms -= rooms_by_hand(world, inner[0], known)
        elif word == "and":
            one, other = inner[0]
            rooms = rooms_by_hand(world, one, known) & rooms_by_hand(world, other, known)
        elif word == "some":
            assert inner[0][0] == "next" and len(inner[0]) == 2 and len(core) == 2, core
            goal = rooms_by_hand(world, inner[0][1], known)
            rooms = {room for room in rooms if goal & set(world.ways_on(room))}
        else:
            assert core == ("yes",), core
        # The core is kept, too, so that no other one gets its id.
        known[id(core)] = (rooms, core)
    return known[id(core)][0]


def unrolled(dice, world, most):
    """A world that is alike: each room a few times, in any order, with ways to one or more of each room on."""
    copies = [room for room in range(world.many()) for _ in range(dice.randint(1, most))]
    dice.shuffle(copies)
    copies = copies[:20] if set(copies[:20]) == set(range(world.many())) else list(range(world.many()))
    ways = []
    for room in copies:
        on = []
        for further in world.ways_on(room):
            here = [at for at, one in enumerate(copies) if one == further]
            on += dice.sample(here, dice.randint(1, len(here)))
        ways.append(dice.sample(on, len(on)))
    starts = [at for at, room in enumerate(copies) if room in world.begins()]
    fair = dice.sample(world.fair_signs(), len(world.fair_signs()))
    return World([world.signs_of(room) for room in copies], ways, starts, fair), copies


def as_lists(world):
    """All that a world tells."""
    rooms = range(world.many())
    return [[world.signs_of(room) for room in rooms], [world.ways_on(room) for room in rooms], world.begins(),
            world.fair_signs()]

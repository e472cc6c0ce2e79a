"""The judge by sets: sentences of branches, turns, and the rooms where fair ways begin.

A set of rooms is a mask: a whole number that has the bit of each room in it.
"""

from timecourt.errors import NoBranch
from timecourt.plain import last_ones
from timecourt.sentences import inner_ahead, inner_of

# What may stand straight in an all or a some.
WAY_WORDS = ("next", "until", "always", "ever", "within")


def rooms_by_sets(world, sentence):
    """The rooms where a sentence of branches is so, rising."""
    row = inner_ahead(sentence)
    refuse_others(row)
    sets = Sets(world)
    return rooms_in(sets.rooms_by(row))


def turns(world, one, other):
    """For each room from which the other sentence comes, by rooms where the one is so, after how many turns."""
    rows = [inner_ahead(one), inner_ahead(other)]
    # Both are sentences by now: BadSentence goes ahead of NoBranch.
    for row in rows:
        refuse_others(row)
    sets = Sets(world)
    along, goal = [sets.rooms_by(row) for row in rows]
    numbers = {}
    near = goal
    far = 0
    turn = 0
    while near:
        for room in rooms_in(near):
            numbers[room] = turn
        far |= near
        near = along & sets.leading_to(near) & ~far
        turn += 1
    return {room: numbers[room] for room in sorted(numbers)}


def fair_rooms(world):
    """The rooms where some fair way begins, rising."""
    sets = Sets(world)
    return rooms_in(sets.fair)


def refuse_others(row):
    """Refuses what is no sentence of branches, told with all that stands in it, inner ones ahead."""
    found = []
    for one in row:
        inner = last_ones(found, len(inner_of(one)))
        found.append(branch_kind(one[0], inner))
    if found != ["room"]:
        raise NoBranch("this is no sentence of branches")


def branch_kind(word, inner):
    """What a sentence with this word is, by what those in it are: of rooms, of ways, or neither."""
    wanted = "way" if word in ("all", "some") else "room"
    if not all([kind == wanted for kind in inner]):
        return "neither"
    if word in ("yes", "sign", "not", "and", "or", "all", "some"):
        return "room"
    return "way" if word in WAY_WORDS else "neither"


def mask_of(rooms):
    """The mask of some rooms, each once."""
    return sum([1 << room for room in rooms])


def rooms_in(mask):
    """The rooms of a mask, rising."""
    return [room for room in range(mask.bit_length()) if (mask >> room) & 1 == 1]


class Sets:
    """The sets of rooms of a world."""

    def __init__(self, world):
        self.whole = mask_of(list(range(world.many())))
        self.ways = [mask_of(world.ways_on(room)) for room in range(world.many())]
        self.signs = [world.signs_of(room) for room in range(world.many())]
        # Without fair signs each room counts as one that a fair way has to come to again and again.
        self.goals = [self.having(sign) for sign in world.fair_signs()] or [self.whole]
        self.fair = self.staying(self.whole)

    def having(self, sign):
        """The rooms with a sign."""
        return mask_of([room for room, signs in enumerate(self.signs) if sign in signs])

    def leading_to(self, goal):
        """The rooms from which a way leads into a set."""
        return mask_of([room for room, ways in enumerate(self.ways) if ways & goal])

    def coming_to(self, along, goal):
        """The rooms from which one comes into a set by rooms of another one."""
        found = goal
        more = goal
        while more:
            more = along & self.leading_to(more) & ~found
            found |= more
        return found

    def staying(self, within):
        """The rooms from which some fair way stays in a set."""
        found = within
        fewer = -1
        while fewer != found:
            fewer = found
            for goal in self.goals:
                found &= self.leading_to(self.coming_to(within, found & goal))
        return found

    def rooms_by(self, row):
        """The rooms where a sentence of branches is so, told with all that stands in it, inner ones ahead."""
        found = []
        for one in row:
            inner = last_ones(found, len(inner_of(one)))
            if one[0] in WAY_WORDS:
                # What stands in an all or a some is kept as it is, with sets in the place of sentences.
                found.append(one[:-len(inner)] + tuple(inner))
            else:
                found.append(self.rooms_with(one, inner))
        return found[0]

    def rooms_with(self, sentence, inner):
        """The rooms where a sentence is so, by the sets of those that stand straight in it."""
        word = sentence[0]
        if word == "sign":
            return self.having(sentence[1])
        if word == "not":
            return self.whole ^ inner[0]
        if word == "some":
            return self.on_some(inner[0])
        if word == "all":
            return self.on_all(inner[0])
        # Yes is so where an and of none is.
        found = 0 if word == "or" else self.whole
        for rooms in inner:
            found = found | rooms if word == "or" else found & rooms
        return found

    def on_some(self, way):
        """The rooms where a sentence of ways, with sets in it, is so on some fair way."""
        word = way[0]
        if word == "always":
            return self.staying(way[1])
        goal = way[-1] & self.fair
        if word == "next":
            return self.leading_to(goal)
        if word == "ever":
            return self.coming_to(self.whole, goal)
        if word == "until":
            return self.coming_to(way[1], goal)
        found = goal
        for turn in range(way[1]):
            found = goal | (way[2] & self.leading_to(found))
        return found

    def on_all(self, way):
        """The rooms where a sentence of ways, with sets in it, is so on all fair ways."""
        word = way[0]
        against = self.whole ^ way[-1]
        if word == "next":
            return self.whole ^ self.on_some(("next", against))
        if word == "always":
            return self.whole ^ self.on_some(("ever", against))
        if word == "ever":
            return self.whole ^ self.staying(against)
        # Ways on which neither is so at some place, and the second one at none ahead of it.
        lost = against & self.fair & ~way[-2]
        if word == "until":
            return self.whole ^ (self.coming_to(against, lost) | self.staying(against))
        found = against & self.fair
        for turn in range(way[1]):
            found = lost | (against & self.leading_to(found))
        return self.whole ^ found

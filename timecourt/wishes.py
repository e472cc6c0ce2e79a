"""Wish rooms: rooms with a truth for each thing that is wished of what is ahead, or kept of what was.

A choice is the number of a tuple of bits: the first wish has its highest bit, so that choices rise as the sorted
tuples do. A mask is a whole number that has the bit of each choice by which something is so.
"""

from timecourt.cores import Table, inner_parts
from timecourt.errors import TooMany
from timecourt.reading import ground_of, ground_rows, told_sets

WISHES = ("next", "until", "before", "since")
MOST_WISHES = 8


def wishes_of(core):
    """The wishes of a core, in the order of its inner parts."""
    wishes = [part for part in inner_parts(core) if part[0] in WISHES]
    if len(wishes) > MOST_WISHES:
        raise TooMany("there are more than eight wishes")
    return wishes


def is_so(world, core, sets, node, part):
    """Whether an inner part of a core is so in a wish room."""
    table = Table()
    number = table.number_of(core)
    rows = ground_rows(world, table, number, told_sets(table, sets))
    place = table.inner_numbers(number).index(table.number_of(part))
    return node_masks(rows, node)[place] == 1


def leads_to(world, core, sets, node):
    """The wish rooms to which one leads, sorted."""
    return WishRooms(world, ground_of(world, core, sets)).leads(node)


def beginnings(world, core, sets, room):
    """The wish rooms of a room in which a way may begin and the core is so, sorted."""
    return WishRooms(world, ground_of(world, core, sets)).begin_in(room)


def marks_of(world, core, sets, node):
    """The marks of a wish room: a truth for each until among the wishes, then one for each fair sign."""
    rows = ground_of(world, core, sets)
    return met_untils(rows, node_masks(rows, node), 0) + fair_marks(world, node[0])


def masks_in(rows, room, whole, bits):
    """The mask of each ground row in a room, by the mask of all choices and the masks of the wishes' bits."""
    masks = []
    wish = 0
    for row in rows:
        if row[0] == "at":
            masks.append(whole if row[1][room] else 0)
        elif row[0] == "not":
            masks.append(whole ^ masks[row[1]])
        elif row[0] == "and":
            masks.append(masks[row[1]] & masks[row[2]])
        else:
            bit = bits[wish]
            wish += 1
            masks.append(bit if row[0] in ("next", "before") else masks[row[2]] | (masks[row[1]] & bit))
    return masks


def node_masks(rows, node):
    """The masks of ground rows in one wish room, its bits being the one choice."""
    room, bits = node
    return masks_in(rows, room, 1, [1 if bit else 0 for bit in bits])


def met_untils(rows, masks, choice):
    """For each until whether, by a choice, it is not so or its second part is."""
    marks = []
    for place, row in enumerate(rows):
        if row[0] == "until":
            marks.append(not has(masks[place], choice) or has(masks[row[2]], choice))
    return marks


def fair_marks(world, room):
    """For each fair sign whether a room has it."""
    return [sign in world.signs_of(room) for sign in world.fair_signs()]


def has(mask, choice):
    """Whether a mask has the bit of a choice."""
    return (mask >> choice) & 1 == 1


def choices_in(mask):
    """The choices whose bits a mask has, rising."""
    choices = []
    left = mask
    while left:
        lowest = left & -left
        choices.append(lowest.bit_length() - 1)
        left ^= lowest
    return choices


class WishRooms:
    """All wish rooms of a world and of ground rows."""

    def __init__(self, world, rows):
        self.world = world
        self.rows = rows
        self.places = [place for place, row in enumerate(rows) if row[0] in WISHES]
        most = 1 << len(self.places)
        heights = [len(self.places) - 1 - wish for wish in range(len(self.places))]
        self.choices = [tuple([has(choice, height) for height in heights]) for choice in range(most)]
        self.numbers = {bits: choice for choice, bits in enumerate(self.choices)}
        self.whole = (1 << most) - 1
        self.bits = [sum([1 << choice for choice in range(most) if has(choice, height)]) for height in heights]
        self.masks = [masks_in(rows, room, self.whole, self.bits) for room in range(world.many())]

    def nodes(self):
        """All wish rooms, sorted."""
        return [(room, bits) for room in range(self.world.many()) for bits in self.choices]

    def nodes_in(self, room, mask):
        """The wish rooms of a room by the choices of a mask, sorted."""
        return [(room, self.choices[choice]) for choice in choices_in(mask)]

    def begin_in(self, room):
        """The wish rooms of a room in which a way may begin and the last row's part is so, sorted."""
        mask = self.masks[room][-1]
        for wish, place in enumerate(self.places):
            if self.rows[place][0] in ("before", "since"):
                mask &= self.whole ^ self.bits[wish]
        return self.nodes_in(room, mask)

    def leads(self, node):
        """The wish rooms to which a wish room leads, sorted."""
        asked = [self.asks(node, wish) for wish in range(len(self.places))]
        found = []
        for further in self.world.ways_on(node[0]):
            mask = self.whole
            for wish, truth in enumerate(asked):
                fits = self.fitting(wish, further)
                mask &= fits if truth else self.whole ^ fits
            found.extend(self.nodes_in(further, mask))
        return found

    def fitting(self, wish, further):
        """The mask, in the room that is led to, of what has to be as the wish asks."""
        place = self.places[wish]
        row = self.rows[place]
        if row[0] == "next":
            return self.masks[further][row[1]]
        if row[0] == "until":
            return self.masks[further][place]
        return self.bits[wish]

    def asks(self, node, wish):
        """What a wish of a wish room asks of the next one: whether it has to be so there or not."""
        room, bits = node
        place = self.places[wish]
        row = self.rows[place]
        if row[0] in ("next", "until"):
            return bits[wish]
        part = row[1] if row[0] == "before" else place
        return has(self.masks[room][part], self.numbers[bits])

    def node_marks(self, node):
        """The marks of a wish room."""
        room, bits = node
        return met_untils(self.rows, self.masks[room], self.numbers[bits]) + fair_marks(self.world, room)

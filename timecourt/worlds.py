"""Worlds: rooms with signs and ways on, starts and fair signs."""

from timecourt.errors import BadWorld
from timecourt.plain import are_names, are_rooms

MOST_ROOMS = 20
MOST_FAIR = 3


class World:
    """A world, which never changes once it is made."""

    def __init__(self, signs, ways, starts, fair):
        if not makes_world(signs, ways, starts, fair):
            raise BadWorld("these lists make no world")
        # Tuples, so that nothing kept here is shared with the asker or can be changed.
        self.room_signs = tuple([tuple(sorted(names)) for names in signs])
        self.room_ways = tuple([tuple(sorted(rooms)) for rooms in ways])
        self.start_rooms = tuple(sorted(starts))
        self.fair_names = tuple(fair)

    def many(self):
        """How many rooms there are."""
        return len(self.room_signs)

    def signs_of(self, room):
        """The signs of a room, sorted."""
        return list(self.room_signs[room])

    def ways_on(self, room):
        """The rooms to which a way leads from a room, sorted."""
        return list(self.room_ways[room])

    def begins(self):
        """The starts, sorted."""
        return list(self.start_rooms)

    def fair_signs(self):
        """The fair signs, in their order."""
        return list(self.fair_names)


def makes_world(signs, ways, starts, fair):
    """Whether four things, of any kind, make a world."""
    if not isinstance(signs, list) or not isinstance(ways, list):
        return False
    many = len(signs)
    if not 1 <= many <= MOST_ROOMS or len(ways) != many:
        return False
    if not all([are_names(names) for names in signs]):
        return False
    if not all([are_some_rooms(rooms, many) for rooms in ways]):
        return False
    return are_some_rooms(starts, many) and are_names(fair) and len(fair) <= MOST_FAIR


def are_some_rooms(thing, many):
    """Whether a thing is a list of one room at least, none twice."""
    if not are_rooms(thing, many) or len(thing) == 0:
        return False
    return len(set(thing)) == len(thing)

"""Worlds made smaller: one room for all that are tied."""

from timecourt.ties import compared
from timecourt.worlds import World


def smaller(world):
    """A world with one room for each class of tied rooms, and the class of each old room."""
    first = {}
    # The tie is sorted, so that a room's first pair has the first room of its class.
    for room, tied in compared(world, world)[1]:
        if room not in first:
            first[room] = tied
    heads = sorted(set(list(first.values())))
    rooms = [heads.index(first[room]) for room in range(world.many())]
    signs = [world.signs_of(head) for head in heads]
    ways = [sorted({rooms[further] for further in world.ways_on(head)}) for head in heads]
    starts = sorted({rooms[start] for start in world.begins()})
    return (World(signs, ways, starts, world.fair_signs()), rooms)

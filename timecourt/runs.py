"""Runs: endless ways through a world that go into a ring."""

from timecourt.plain import are_rooms


def is_run(world, thing):
    """Whether a thing, of any kind, is a run of a world."""
    if not isinstance(thing, tuple) or len(thing) != 2:
        return False
    way, ring = thing
    many = world.many()
    if not are_rooms(way, many) or not are_rooms(ring, many):
        return False
    # The ring's first room comes again, for the way that closes the ring.
    return len(ring) > 0 and are_linked(world, way + ring + ring[:1])


def are_linked(world, rooms):
    """Whether a way leads from each of the rooms to the next one."""
    for here, there in zip(rooms, rooms[1:]):
        if there not in world.ways_on(here):
            return False
    return True


def is_fair(world, run):
    """Whether each fair sign is a sign of some room of the run's ring."""
    for sign in world.fair_signs():
        if not any([sign in world.signs_of(room) for room in run[1]]):
            return False
    return True


def first_room(run):
    """The room where a run begins."""
    way, ring = run
    return way[0] if way else ring[0]

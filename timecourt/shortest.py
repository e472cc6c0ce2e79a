"""The shortest way and ring that keep a sentence, or ranks that close all of them."""

from timecourt.cores import core_of, parts_of
from timecourt.errors import NoAhead, TooMany
from timecourt.papers import all_begins, net_of
from timecourt.plain import are_names
from timecourt.reading import ground_of
from timecourt.rings import Knots, traced
from timecourt.sentences import inner_ahead
from timecourt.wishes import WishRooms, wishes_of
from timecourt.worlds import World

MOST_SIGNS = 3
MOST_AHEAD = 4


def shortest(sentence, signs):
    """A way and a ring with the fewest rooms that keep a sentence, or ranks and lacks that show that none do."""
    core = core_of(sentence)
    if not looks_ahead(sentence, core) or not are_its_signs(sentence, signs):
        raise NoAhead("this is told of sentences that look ahead alone, with a rising list of all their signs")
    if len(wishes_of(core)) > MOST_AHEAD:
        raise TooMany("there are more than four wishes")
    world = world_of_all(signs)
    wish_rooms = WishRooms(world, ground_of(world, core, []))
    net, marks = net_of(wish_rooms)
    begins = all_begins(wish_rooms, world.begins())
    knots = Knots(net, marks, begins)
    if not knots.goals:
        ranks, lacks = knots.ranks_from(begins)
        return ("closed", ranks, lacks)
    # What looks ahead alone is so in the same way in each round: so the shortest ring of rooms is one of wish rooms.
    way, ring = shortest_loop(net, marks, begins, knots.goals)
    return ("kept", [world.signs_of(node[0]) for node in way], [world.signs_of(node[0]) for node in ring])


def world_of_all(signs):
    """The world whose rooms are all lists of the signs, with ways from each to all."""
    rooms = list(range(1 << len(signs)))
    room_signs = [[name for bit, name in enumerate(signs) if (room >> bit) & 1 == 1] for room in rooms]
    return World(room_signs, [rooms for room in rooms], rooms, [])


def looks_ahead(sentence, core):
    """Whether a sentence has no quantifier, and its core nothing that looks back."""
    if any([one[0] in ("all", "some") for one in inner_ahead(sentence)]):
        return False
    return all([part[0] not in ("before", "since") for part in parts_of(core)])


def are_its_signs(sentence, thing):
    """Whether a thing, of any kind, is a rising list of at most three names, the signs of a sentence among them."""
    if not are_names(thing) or len(thing) > MOST_SIGNS or sorted(thing) != thing:
        return False
    return all([one[1] in thing for one in inner_ahead(sentence) if one[0] == "sign"])


def shortest_loop(net, marks, begins, goals):
    """The full loop with the fewest nodes; goals are the nodes through which full rings go, one at least."""
    ahead = nearest_first(net, begins)
    best = None
    fewest = 0
    for node in ahead:
        if node in goals:
            way = traced(ahead, node)[:-1]
            if best is not None and len(way) + 1 >= fewest:
                return best
            most = None if best is None else fewest - len(way) - 1
            ring = shortest_ring(net, marks, node, most)
            if ring is not None:
                best = (way, ring)
                fewest = len(way) + len(ring)
    return best


def nearest_first(net, begins):
    """For each node that is reached, the nearest ones first, a list with the node ahead of it, or with none."""
    ahead = {begin: [] for begin in begins}
    row = list(ahead)
    place = 0
    while place < len(row):
        for further in net[row[place]]:
            if further not in ahead:
                ahead[further] = [row[place]]
                row.append(further)
        place += 1
    return ahead


def shortest_ring(net, marks, node, most):
    """A shortest full ring from a node, or None where it has more nodes than most; None of most bounds nothing."""
    full = (1 << len(marks[node])) - 1
    first = (node, met_at(marks, node))
    # A state is a node with the bits of the marks that were met up to it.
    ahead = {first: []}
    states = [first]
    many = 1
    while states and (most is None or many <= most):
        later = []
        for state in states:
            at, met = state
            if met == full and node in net[at]:
                return [one[0] for one in traced(ahead, state)]
            for further in net[at]:
                after = (further, met | met_at(marks, further))
                if after not in ahead:
                    ahead[after] = [state]
                    later.append(after)
        states = later
        many += 1
    return None


def met_at(marks, node):
    """The bits of the marks of a node."""
    return sum([1 << number for number, mark in enumerate(marks[node]) if mark])

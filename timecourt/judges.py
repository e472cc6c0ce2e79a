"""The judge: papers, the rooms where a sentence is so, and ways against it."""

from timecourt.cores import Table, core_of
from timecourt.papers import all_begins, inside, net_of, refuse_many, room_table, somes_of
from timecourt.reading import ground_rows
from timecourt.rings import Knots
from timecourt.wishes import WishRooms


def judged(world, sentence):
    """A paper of a world and a sentence of rooms that is let by."""
    return paper_of(world, room_table(world, sentence))


def rooms_of(world, sentence):
    """The rooms where a sentence of rooms is so, rising."""
    table = room_table(world, sentence)
    whole = WishRooms(world, top_rows(world, table))
    # A sentence of rooms has no wishes: in a room it is so, or isn't.
    return [room for room in range(world.many()) if whole.begin_in(room)]


def is_kept(world, sentence):
    """Whether a sentence of rooms is so at each start."""
    rooms = rooms_of(world, sentence)
    return all([start in rooms for start in world.begins()])


def way_against(world, sentence):
    """A fair run from a start on which a sentence is read False, or None."""
    table = Table()
    number = table.number_of(("not", core_of(sentence)))
    refuse_many(world, table, [inside(table, some) for some in somes_of(table)] + [number])
    wish_rooms = WishRooms(world, top_rows(world, table))
    begins = all_begins(wish_rooms, world.begins())
    net, marks = net_of(wish_rooms)
    return run_of(Knots(net, marks, begins).loop_from(begins))


def top_rows(world, table):
    """The ground rows of the part with a table's last number, whose somes are judged."""
    paper = paper_of(world, table)
    told = {some: entry[0] for some, entry in zip(somes_of(table), paper)}
    return ground_rows(world, table, len(table.rows) - 1, told)


def paper_of(world, table):
    """An entry for each some of a table, in their order."""
    paper = []
    told = {}
    for some in somes_of(table):
        entry = entry_of(world, ground_rows(world, table, inside(table, some), told))
        told[some] = entry[0]
        paper.append(entry)
    return paper


def entry_of(world, rows):
    """The rooms where the part of the last ground row is so on some fair way, with what shows it."""
    wish_rooms = WishRooms(world, rows)
    net, marks = net_of(wish_rooms)
    knots = Knots(net, marks, all_begins(wish_rooms, list(range(world.many()))))
    runs = {}
    others = []
    for room in range(world.many()):
        run = run_of(knots.loop_from(wish_rooms.begin_in(room)))
        if run is None:
            others.append(room)
        else:
            runs[room] = run
    ranks, lacks = knots.ranks_from(all_begins(wish_rooms, others))
    return (list(runs), runs, ranks, lacks)


def run_of(loop):
    """The run along the rooms of a loop of wish rooms; None of None."""
    if loop is None:
        return None
    way, ring = loop
    return ([node[0] for node in way], [node[0] for node in ring])

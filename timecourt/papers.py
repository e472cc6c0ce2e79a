"""Papers: what shows in which rooms the somes of a sentence are so."""

from timecourt.cores import Table, core_of
from timecourt.errors import BadSentence, TooMany
from timecourt.plain import are_rooms, is_whole
from timecourt.ranks import closes
from timecourt.reading import ground_rows, read_rows
from timecourt.runs import first_room, is_fair, is_run
from timecourt.sentences import kind_of
from timecourt.wishes import MOST_WISHES, WISHES, WishRooms

MOST_WISH_ROOMS = 640


def lets_by(world, sentence, paper):
    """Whether a thing, of any kind, is a paper of a world and a sentence that is let by."""
    table = room_table(world, sentence)
    somes = somes_of(table)
    if not isinstance(paper, list) or len(paper) != len(somes):
        return False
    told = {}
    for some, entry in zip(somes, paper):
        if not is_entry(world, entry):
            return False
        if not entry_holds(world, ground_rows(world, table, inside(table, some), told), entry):
            return False
        told[some] = entry[0]
    return True


def room_table(world, sentence):
    """The table of a sentence of rooms, whose core has the last number."""
    if kind_of(sentence) != "room":
        raise BadSentence("this is a sentence of ways, and one of rooms is asked for")
    table = Table()
    table.number_of(core_of(sentence))
    refuse_many(world, table, [inside(table, some) for some in somes_of(table)])
    return table


def somes_of(table):
    """The numbers of the somes in a table, in their order."""
    return [number for number, row in enumerate(table.rows) if row[0] == "some"]


def inside(table, some):
    """The number of what is in a some."""
    return table.rows[some][1]


def refuse_many(world, table, numbers):
    """Refuses where a part with one of the numbers has too many wishes, or wish rooms."""
    for number in numbers:
        wishes = len([inner for inner in table.inner_numbers(number) if table.rows[inner][0] in WISHES])
        if wishes > MOST_WISHES or world.many() << wishes > MOST_WISH_ROOMS:
            raise TooMany("there are too many wishes for this world")


def is_entry(world, thing):
    """Whether a thing has the form of an entry: its ranks, its lacks and the runs themselves are not looked at."""
    if not isinstance(thing, tuple) or len(thing) != 4:
        return False
    rooms, runs = thing[:2]
    if not are_rooms(rooms, world.many()):
        return False
    if not isinstance(runs, dict) or not all([is_whole(room) for room in runs]):
        return False
    # A dict has no key twice: so the rooms rise, too.
    return sorted(runs) == rooms


def entry_holds(world, rows, entry):
    """Whether an entry shows in which rooms the part of the last ground row is so on some fair way."""
    rooms, runs, ranks, lacks = entry
    if not all([run_keeps(world, rows, room, runs[room]) for room in rooms]):
        return False
    wish_rooms = WishRooms(world, rows)
    net, marks = net_of(wish_rooms)
    others = [room for room in range(world.many()) if room not in rooms]
    return closes(net, marks, all_begins(wish_rooms, others), ranks, lacks)


def run_keeps(world, rows, room, thing):
    """Whether a thing is a fair run from a room on which the part of the last ground row is so."""
    if not is_run(world, thing) or not is_fair(world, thing) or first_room(thing) != room:
        return False
    return read_rows(rows, thing, 1)[0]


def net_of(wish_rooms):
    """The net of all wish rooms, and their marks."""
    nodes = wish_rooms.nodes()
    return ({node: wish_rooms.leads(node) for node in nodes}, {node: wish_rooms.node_marks(node) for node in nodes})


def all_begins(wish_rooms, rooms):
    """The beginnings of all of the rooms."""
    return [node for room in rooms for node in wish_rooms.begin_in(room)]

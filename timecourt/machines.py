"""Machines, and machines side by side as a world."""

from timecourt.errors import BadMachine, BadWorld, TooMany
from timecourt.plain import are_names, is_name, is_room
from timecourt.worlds import MOST_ROOMS, World

MOST_MACHINE_ROOMS = 6
MOST_MACHINES = 4


class Machine:
    """A machine, which never changes once it is made."""

    def __init__(self, signs, moves, start, words=None):
        if not makes_machine(signs, moves, start, words):
            raise BadMachine("these things make no machine")
        self.room_signs = tuple([tuple(names) for names in signs])
        self.moves = tuple(moves)
        self.start = start
        known = [move[1] for move in moves] + (words or [])
        self.words = tuple(sorted(set(known)))

    def goes_to(self, room, word):
        """The rooms to which it goes from a room by a word, each once; it stays where it doesn't know the word."""
        if word not in self.words:
            return [room]
        return list({further: True for here, by, further in self.moves if here == room and by == word})


def makes_machine(signs, moves, start, words):
    """Whether four things, of any kind, make a machine."""
    if not isinstance(signs, list) or not 1 <= len(signs) <= MOST_MACHINE_ROOMS:
        return False
    if not all([are_names(names) for names in signs]):
        return False
    many = len(signs)
    if not isinstance(moves, list) or not all([is_move(move, many) for move in moves]):
        return False
    return is_room(start, many) and (words is None or are_names(words))


def is_move(thing, many):
    """Whether a thing is a tuple of a room, a word and a room, of so many rooms."""
    if not isinstance(thing, tuple) or len(thing) != 3:
        return False
    return is_room(thing[0], many) and is_name(thing[1]) and is_room(thing[2], many)


def are_machines(thing):
    """Whether a thing is a list of one to four machines."""
    if not isinstance(thing, (list, tuple)) or not 1 <= len(thing) <= MOST_MACHINES:
        return False
    return all([isinstance(one, Machine) for one in thing])


def beside(machines, fair):
    """The world of machines side by side, and its places: a room of each machine for each room of the world."""
    if not are_machines(machines):
        raise BadWorld("there are not one to four machines")
    words = sorted({word for machine in machines for word in machine.words})
    places = [tuple([machine.start for machine in machines])]
    numbers = {places[0]: 0}
    ways = []
    while len(ways) < len(places):
        met = places_on(machines, words, places[len(ways)])
        for place in met:
            if place not in numbers:
                numbers[place] = len(places)
                places.append(place)
        # Refused as soon as it is known: there may be more than a thousand.
        if len(places) > MOST_ROOMS:
            raise TooMany("there are more than twenty places")
        ways.append([numbers[place] for place in met])
    return (World([signs_at(machines, place) for place in places], ways, [0], fair), places)


def places_on(machines, words, place):
    """The places on from a place, each once, in the order in which they are met; itself where no word can be taken."""
    met = {}
    for word in words:
        rows = [()]
        for machine, room in zip(machines, place):
            rows = [row + (further,) for row in rows for further in machine.goes_to(room, word)]
        met.update({row: True for row in rows})
    return list(met) or [place]


def signs_at(machines, place):
    """The signs of the rooms of a place, each once."""
    return sorted({name for machine, room in zip(machines, place) for name in machine.room_signs[room]})

"""What whole numbers, names and rooms are, and other small things that several modules need."""

LETTERS = "abcdefghijklmnopqrstuvwxyz"
MOST_LETTERS = 8


def is_whole(thing):
    """Whether a thing is a whole number; a truth is none."""
    return isinstance(thing, int) and not isinstance(thing, bool)


def is_name(thing):
    """Whether a thing is a text of one to eight small letters."""
    if not isinstance(thing, str) or not 1 <= len(thing) <= MOST_LETTERS:
        return False
    return all([letter in LETTERS for letter in thing])


def is_room(thing, many):
    """Whether a thing is the number of one of so many rooms."""
    return is_whole(thing) and 0 <= thing < many


def are_names(thing):
    """Whether a thing is a list of names, none twice."""
    if not isinstance(thing, list) or not all([is_name(name) for name in thing]):
        return False
    return len(set(thing)) == len(thing)


def are_rooms(thing, many):
    """Whether a thing is a list of rooms, which may come again."""
    return isinstance(thing, list) and all([is_room(room, many) for room in thing])


def last_ones(things, many):
    """Takes so many things away from a list's end, and tells them in their order."""
    start = len(things) - many
    taken = things[start:]
    del things[start:]
    return taken

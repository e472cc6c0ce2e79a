"""Worlds as texts: shown, and read again."""

from timecourt.errors import NoText
from timecourt.plain import is_name
from timecourt.worlds import World

FIGURES = "0123456789"
MOST_FIGURES = 6


def show_world(world):
    """The text of a world."""
    lines = [line_of("room", world.signs_of(room)) for room in range(world.many())]
    lines += [line_of("ways", world.ways_on(room)) for room in range(world.many())]
    lines.append(line_of("starts", world.begins()))
    lines.append(line_of("fair", world.fair_signs()))
    return "\n".join(lines)


def line_of(head, things):
    """A line: its first word, and a word for each of the things."""
    return " ".join([head] + [str(thing) for thing in things])


def read_world(text):
    """The world of a text."""
    if not isinstance(text, str):
        raise NoText("a world is read from a text alone")
    lines = [line.split(" ") for line in text.split("\n")]
    many = len(lines) // 2 - 1
    if [line[0] for line in lines] != ["room"] * many + ["ways"] * many + ["starts", "fair"]:
        raise NoText("the lines are not those of a world's text")
    signs = [rising(names_of(line)) for line in lines[:many]]
    ways = [rising(numbers_of(line)) for line in lines[many:-2]]
    starts = rising(numbers_of(lines[-2]))
    fair = names_of(lines[-1])
    # All that is written is looked at by now: NoText goes ahead of BadWorld.
    return World(signs, ways, starts, fair)


def names_of(line):
    """The names behind a line's first word."""
    names = line[1:]
    if not all([is_name(name) for name in names]):
        raise NoText("a sign is no name")
    return names


def numbers_of(line):
    """The numbers behind a line's first word."""
    words = line[1:]
    if not all([is_number(word) for word in words]):
        raise NoText("a number is not written as numbers are")
    return [int(word) for word in words]


def is_number(word):
    """Whether a word is a number, by one to six figures and no nought ahead."""
    if not 1 <= len(word) <= MOST_FIGURES:
        return False
    # int() would take signs and underscores too.
    if not all([figure in FIGURES for figure in word]):
        return False
    return word == "0" or word[0] != "0"


def rising(things):
    """The same things, where each is greater than the one ahead of it."""
    for low, high in zip(things, things[1:]):
        if low >= high:
            raise NoText("a line does not rise")
    return things

"""The desk: a world, asked by texts."""

from timecourt.errors import NoLine, NoWorld
from timecourt.judges import is_kept, rooms_of, way_against
from timecourt.shorter import shorter
from timecourt.smaller import smaller
from timecourt.texts import read_sentence, show
from timecourt.worldtexts import read_world, show_world


def kept_answer(world, sentence):
    """Whether a sentence is kept, as a text."""
    return "yes" if is_kept(world, sentence) else "no"


def rooms_answer(world, sentence):
    """The rooms where a sentence is so, as a text."""
    rooms = rooms_of(world, sentence)
    return " ".join([str(room) for room in rooms]) if rooms else "none"


def against_answer(world, sentence):
    """A way against a sentence, as a text."""
    run = way_against(world, sentence)
    if run is None:
        return "none"
    way, ring = run
    return " ".join([str(room) for room in way] + [";"] + [str(room) for room in ring])


ANSWERS = {"kept": kept_answer, "rooms": rooms_answer, "against": against_answer}


def split_line(text):
    """The first word of what is told to a desk, and the text behind it."""
    if not isinstance(text, str):
        raise NoLine("a desk is told texts alone")
    if text == "smaller":
        return ("smaller", "")
    head, line_end, rest = text.partition("\n")
    if head == "world" and line_end:
        return (head, rest)
    head, blank, rest = text.partition(" ")
    if blank and (head == "shorter" or head in ANSWERS):
        return (head, rest)
    raise NoLine("a desk is told no such text")


class Desk:
    """A desk, which has no world at first."""

    def __init__(self):
        self.world = None

    def say(self, text):
        """Answers a text."""
        word, rest = split_line(text)
        if word == "world":
            self.world = read_world(rest)
            return "ok"
        if word == "shorter":
            return show(shorter(read_sentence(rest)))
        if self.world is None:
            raise NoWorld("the desk has no world yet")
        if word == "smaller":
            return show_world(smaller(self.world)[0])
        answer = ANSWERS[word]
        return answer(self.world, read_sentence(rest))

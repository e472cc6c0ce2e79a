"""Cores: sentences by a few words alone, and their parts."""

from timecourt.plain import last_ones
from timecourt.sentences import inner_ahead, inner_of

YES = ("yes",)


def core_of(sentence):
    """The core of a sentence."""
    found = []
    for one in inner_ahead(sentence):
        inner = last_ones(found, len(inner_of(one)))
        found.append(core_with(one, inner))
    return found[0]


def core_with(sentence, inner):
    """The core of a sentence, by the cores of those that stand straight in it."""
    word = sentence[0]
    if word in ("yes", "sign"):
        return sentence
    if word == "and":
        return and_of(inner)
    if word == "or":
        return or_of(inner)
    if word == "all":
        return ("not", ("some", ("not", inner[0])))
    if word == "ever":
        return ("until", YES, inner[0])
    if word == "always":
        return ("not", ("until", YES, ("not", inner[0])))
    if word == "once":
        return ("since", YES, inner[0])
    if word == "sofar":
        return ("not", ("since", YES, ("not", inner[0])))
    if word == "within":
        return within_of(sentence[1], inner[0], inner[1])
    return (word,) + tuple(inner)


def and_of(cores):
    """The core of an and of cores."""
    if not cores:
        return YES
    whole = cores[-1]
    for core in reversed(cores[:-1]):
        whole = ("and", (core, whole))
    return whole


def or_of(cores):
    """The core of an or of cores."""
    if not cores:
        return ("not", YES)
    whole = cores[-1]
    for core in reversed(cores[:-1]):
        whole = ("not", ("and", (("not", core), ("not", whole))))
    return whole


def within_of(turns, first, second):
    """The core of a within of two cores."""
    whole = second
    for turn in range(turns):
        whole = or_of([second, and_of([first, ("next", whole)])])
    return whole


def row_with(sentence, inner):
    """A sentence with the numbers of those that stand straight in it in their place."""
    if not inner:
        return sentence
    head = sentence[:2] if sentence[0] == "within" else sentence[:1]
    return head + tuple(inner)


class Table:
    """Sentences, as a rule parts of cores, each once, with a number and a row of its own.

    A row is a sentence with numbers in the place of what stands in it. Deep ones are told apart by their rows,
    as they are too deep to be keys, or to be compared, themselves.
    """

    def __init__(self):
        self.parts = []
        self.rows = []
        self.numbers = {}

    def number_of(self, core):
        """The number of a core, which is taken in with all its parts where it is new."""
        found = []
        for part in inner_ahead(core):
            inner = last_ones(found, len(inner_of(part)))
            found.append(self.taken_in(part, row_with(part, inner)))
        return found[0]

    def taken_in(self, part, row):
        """The number of a part with a row."""
        if row not in self.numbers:
            self.numbers[row] = len(self.rows)
            self.parts.append(part)
            self.rows.append(row)
        return self.numbers[row]

    def inner_numbers(self, number):
        """The numbers of the inner parts of the part with a number, in their order."""
        found = []
        seen = set()
        waiting = [number]
        while waiting:
            at = waiting[-1]
            ahead = [inner for inner in below(self.rows[at]) if inner not in seen]
            if ahead:
                waiting.append(ahead[0])
            else:
                found.append(waiting.pop())
                seen.add(at)
        return found


def below(row):
    """The numbers in a row, with no some gone into."""
    return () if row[0] in ("yes", "sign", "some") else row[1:]


def parts_of(core):
    """The parts of a core, each once, inner ones ahead."""
    table = Table()
    table.number_of(core)
    return table.parts


def inner_parts(core):
    """The parts of a core that are not within a some of it, each once, inner ones ahead."""
    table = Table()
    number = table.number_of(core)
    return [table.parts[inner] for inner in table.inner_numbers(number)]


def size_of(core):
    """How many parts a core has, each as often as it stands."""
    return len(inner_ahead(core))

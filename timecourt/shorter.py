"""Sentences made shorter."""

from timecourt.cores import YES, Table, row_with
from timecourt.plain import last_ones
from timecourt.sentences import inner_ahead, inner_of

# Words by which a sentence is so, or isn't, where its last part always is, or never is. Before is none of them:
# at the first place nothing is ahead.
STEADY_WORDS = ("next", "always", "ever", "until", "within", "once", "sofar", "since")


def shorter(sentence):
    """A sentence, perhaps the same, that is read alike and has no greater core."""
    shorts = Shorts()
    found = []
    for one in inner_ahead(sentence):
        inner = last_ones(found, len(inner_of(one)))
        found.append(shorts.both_of(one, inner))
    return shorts.table.parts[found[0][1]]


class Shorts:
    """Sentences by their numbers in a table, in which each stands once: so like ones have the same number."""

    def __init__(self):
        self.table = Table()
        self.yes = self.table.number_of(YES)
        self.no = self.table.number_of(("not", YES))

    def both_of(self, sentence, inner):
        """The numbers of a sentence as it stands and made shorter, by those of what stands straight in it."""
        stands = self.table.taken_in(sentence, row_with(sentence, [pair[0] for pair in inner]))
        if sentence[0] in ("all", "some"):
            return (stands, stands)
        return (stands, self.short_of(sentence, [pair[1] for pair in inner]))

    def short_of(self, sentence, inner):
        """The number of a sentence made shorter, by the numbers of what stands straight in it, made shorter."""
        word = sentence[0]
        if word == "and":
            return self.joined(word, inner, self.yes, self.no)
        if word == "or":
            return self.joined(word, inner, self.no, self.yes)
        if word in STEADY_WORDS and inner[-1] in (self.yes, self.no):
            return inner[-1]
        if word == "not" and self.word_of(inner[0]) == "not":
            return self.table.rows[inner[0]][1]
        if word == "always" and self.is_double(inner[0], "always", "ever"):
            return inner[0]
        if word == "ever" and self.is_double(inner[0], "ever", "always"):
            return inner[0]
        return self.made(sentence, inner)

    def joined(self, word, inner, idle, strong):
        """The number of an and or an or, where idle is what adds nothing to it, and strong what settles it."""
        if strong in inner:
            return strong
        few = list({number: True for number in inner if number != idle})
        if not few:
            return idle
        if len(few) == 1:
            return few[0]
        parts = tuple([self.table.parts[number] for number in few])
        return self.table.taken_in((word, parts), (word,) + tuple(few))

    def is_double(self, number, same, other):
        """Whether a sentence begins with the same word, or with the other one and then the same."""
        if self.word_of(number) == other:
            return self.word_of(self.table.rows[number][1]) == same
        return self.word_of(number) == same

    def word_of(self, number):
        """The first word of a sentence."""
        return self.table.rows[number][0]

    def made(self, sentence, inner):
        """The number of a sentence with others in it."""
        if not inner:
            return self.table.taken_in(sentence, sentence)
        parts = tuple([self.table.parts[number] for number in inner])
        return self.table.taken_in(sentence[:-len(inner)] + parts, row_with(sentence, inner))

"""Sentences as texts: shown, and read again."""

from timecourt.errors import NoText
from timecourt.plain import is_name, last_ones
from timecourt.sentences import inner_ahead, inner_of

# Words that stand ahead of one sentence, between two, and ahead of any number of them.
HEADS = ("not", "next", "always", "ever", "before", "once", "sofar", "all", "some")
BETWEEN = ("until", "since")
JOINS = ("and", "or")
TURNS = ("0", "1", "2", "3", "4", "5")
# What stands beside sentences within brackets.
BESIDE = ("until", "since", "and", "or", "within", "0", "1", "2", "3", "4", "5")


def show(sentence):
    """The text of a sentence."""
    found = []
    for one in inner_ahead(sentence):
        inner = last_ones(found, len(inner_of(one)))
        found.append(" ".join(words_with(one, inner)))
    return found[0]


def words_with(sentence, inner):
    """The words of a sentence, with texts in the place of those that stand straight in it."""
    word = sentence[0]
    if word == "yes":
        return [word]
    if word == "sign":
        if sentence[1] == "yes" or sentence[1] in HEADS or sentence[1] in BESIDE:
            raise NoText("a sign is called as a word of sentences")
        return [sentence[1]]
    if word in HEADS:
        return [word] + inner
    if word in JOINS:
        return ["(", word] + inner + [")"]
    if word == "within":
        return ["(", inner[0], word, str(sentence[1]), inner[1], ")"]
    return ["(", inner[0], word, inner[1], ")"]


def read_sentence(text):
    """The sentence of a text."""
    if not isinstance(text, str):
        raise NoText("a sentence is read from a text alone")
    reader = Reader()
    for word in text.split(" "):
        reader.take_word(word)
    return reader.told()


class Reader:
    """Reads a sentence word by word.

    What is open waits in a list, as sentences may be deeper than calls may go: a word ahead of a sentence as itself,
    a bracket as the list of what stands behind it so far, sentences and the words beside them.
    """

    def __init__(self):
        self.waiting = []
        self.found = []

    def take_word(self, word):
        """Takes the next word of the text."""
        if self.found:
            raise NoText("something stands behind the sentence")
        if word in HEADS:
            self.waiting.append(word)
        elif word == "(":
            self.waiting.append([])
        elif word == ")":
            inner = self.open_bracket()
            self.waiting.pop()
            self.take_sentence(bracketed(inner))
        elif word in BESIDE:
            inner = self.open_bracket()
            inner.append(word)
        elif word == "yes":
            self.take_sentence(("yes",))
        elif is_name(word):
            self.take_sentence(("sign", word))
        else:
            raise NoText("this is no word of a sentence")

    def open_bracket(self):
        """The list of what stands behind the bracket that was opened last, where no word waits for a sentence in it."""
        if not self.waiting or not isinstance(self.waiting[-1], list):
            raise NoText("a sentence is lacking, or a bracket")
        return self.waiting[-1]

    def take_sentence(self, sentence):
        """Takes a sentence that is complete, with the words that wait for it."""
        whole = sentence
        while self.waiting and isinstance(self.waiting[-1], str):
            whole = (self.waiting.pop(), whole)
        inner = self.waiting[-1] if self.waiting else self.found
        inner.append(whole)

    def told(self):
        """The sentence, where the text is at its end."""
        if not self.found:
            raise NoText("the sentence is not at its end")
        return self.found[0]


def bracketed(inner):
    """The sentence of what stands within brackets."""
    words = [one if isinstance(one, str) else "" for one in inner]
    sentences = tuple([one for one in inner if isinstance(one, tuple)])
    if words and words[0] in JOINS and len(sentences) == len(words) - 1:
        return (words[0], sentences)
    if len(words) == 3 and words == ["", words[1], ""] and words[1] in BETWEEN:
        return (words[1],) + sentences
    if len(words) == 4 and words == ["", "within", words[2], ""] and words[2] in TURNS:
        return ("within", int(words[2])) + sentences
    raise NoText("this is no sentence within brackets")

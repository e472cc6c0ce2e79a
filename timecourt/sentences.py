"""Sentences: what they are made of, and their kinds."""

from timecourt.errors import BadSentence
from timecourt.plain import is_name, is_whole, last_ones

MOST_WITHIN = 5

# How many things a tuple has that bears a word and sentences alone.
LENGTHS = {
    "all": 2, "some": 2, "not": 2, "next": 2, "always": 2, "ever": 2, "before": 2, "once": 2, "sofar": 2,
    "until": 3, "since": 3,
}


def is_formed(thing):
    """Whether a thing, of any kind, has the form of a sentence; what stands in it is not looked at."""
    if not isinstance(thing, tuple) or len(thing) == 0 or not isinstance(thing[0], str):
        return False
    word = thing[0]
    if word == "yes":
        return len(thing) == 1
    if word == "sign":
        return len(thing) == 2 and is_name(thing[1])
    if word in ("and", "or"):
        return len(thing) == 2 and isinstance(thing[1], tuple)
    if word == "within":
        return len(thing) == 4 and is_whole(thing[1]) and 0 <= thing[1] <= MOST_WITHIN
    return word in LENGTHS and len(thing) == LENGTHS[word]


def inner_of(sentence):
    """What stands straight in a sentence, a tuple."""
    word = sentence[0]
    if word in ("yes", "sign"):
        return ()
    if word in ("and", "or"):
        return sentence[1]
    if word == "within":
        return sentence[2:]
    return sentence[1:]


def inner_ahead(sentence):
    """All that stands in a sentence, as often as it does: inner ones ahead, the left one first, itself last."""
    found = []
    # A list of what waits, as sentences may be deeper than calls may go.
    waiting = [sentence]
    while waiting:
        one = waiting.pop()
        if not is_formed(one):
            raise BadSentence("this is no sentence, or has something in it that is none")
        found.append(one)
        waiting.extend(inner_of(one))
    return found[::-1]


def kind_of(sentence):
    """The kind of a sentence: room or way."""
    found = []
    for one in inner_ahead(sentence):
        inner = last_ones(found, len(inner_of(one)))
        found.append(is_of_rooms(one[0], inner))
    return "room" if found[0] else "way"


def is_of_rooms(word, inner):
    """Whether a sentence with this word is one of rooms, by whether those in it are."""
    if word in ("yes", "sign", "all", "some"):
        return True
    return word in ("not", "and", "or") and all(inner)

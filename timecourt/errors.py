"""The refusals, one class each."""


class TimeError(ValueError):
    """Any refusal."""


class BadWorld(TimeError):
    """What was handed in makes no world."""


class BadSentence(TimeError):
    """What was handed in is no sentence of the kind asked for."""


class BadMachine(TimeError):
    """What was handed in makes no machine."""


class TooMany(TimeError):
    """There are more wishes, wish rooms or places than are let in."""


class NoBranch(TimeError):
    """The sentence is none of branches."""


class OtherFair(TimeError):
    """The two worlds have other fair signs."""


class NoAhead(TimeError):
    """The sentence doesn't look ahead alone, or the signs don't fit it."""


class NoText(TimeError):
    """The text is not written as asked, or can't be written."""


class NoLine(TimeError):
    """The text is none that a desk is told."""


class NoWorld(TimeError):
    """The desk has no world yet."""

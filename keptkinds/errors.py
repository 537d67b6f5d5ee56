"""The errors of the program. Each keeps what it is about in its fields."""


class KindsError(ValueError):
    """The base of all errors of the program."""


class BadSymbol(KindsError):
    """A symbol is invalid, or a name is no symbol's."""

    def __init__(self, symbol):
        self.symbol = symbol


class BadTerm(KindsError):
    """A tuple is no term; `term` is its first bad part, perhaps itself."""

    def __init__(self, term):
        self.term = term


class BadKind(KindsError):
    """A kind is invalid, not declared, or put under itself."""

    def __init__(self, kind):
        self.kind = kind


class BadEntry(KindsError):
    """An entry, or the name and part kinds of entries, are none of the book's."""

    def __init__(self, entry):
        self.entry = entry


class BadRule(KindsError):
    """A rule is invalid."""

    def __init__(self, rule):
        self.rule = rule


class BadChange(KindsError):
    """A change that the language does not have, or that was passed before."""

    def __init__(self, change):
        self.change = change


class OtherBook(KindsError):
    """Two books differ in symbols, kinds or what is under what."""


class NotOnTop(KindsError):
    """A language is not on top of a base; `what` is the word that fails."""

    def __init__(self, what):
        self.what = what


class LostKind(KindsError):
    """The step from `before` to `after` loses `kind`."""

    def __init__(self, before, after, kind):
        self.before = before
        self.after = after
        self.kind = kind


class Stuck(KindsError):
    """`term`, reached in `count` steps, is stuck; `why` tells of a lost kind, or is None."""

    def __init__(self, term, count, why):
        self.term = term
        self.count = count
        self.why = why

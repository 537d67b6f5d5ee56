"""Signatures, the terms over them, and the order of these terms.

Terms are walked with lists instead of recursion: a term that some steps
returned may be nested more deeply than calls may be.
"""
from keptkinds.errors import BadSymbol, BadTerm

LETTERS = "abcdefghijklmnopqrstuvwxyz"
LONGEST_WORD = 8
MOST_PLACES = 3


def is_word(text):
    """Whether a string may name a symbol, a kind or a variable."""
    return 1 <= len(text) <= LONGEST_WORD and all([sign in LETTERS for sign in text])


def is_symbol(symbol):
    """Whether a symbol is valid, apart from the names of the others."""
    name, places, _, order = symbol
    if not is_word(name) or not 0 <= places <= MOST_PLACES:
        return False
    return all([place in range(places) for place in order]) and len(set(order)) == len(order)


class Signature:
    """The declared symbols. It never changes, so that it can be shared."""

    def __init__(self, symbols):
        self._symbols = tuple(symbols)
        self._spots = {}
        for spot, symbol in enumerate(self._symbols):
            if not is_symbol(symbol) or symbol[0] in self._spots:
                raise BadSymbol(symbol)
            self._spots[symbol[0]] = spot

    @property
    def symbols(self):
        return self._symbols

    def size(self, term):
        """The number of symbols in a term."""
        check_term(self, term)
        return len(all_parts(term))

    def precedes(self, first, second):
        """Whether the first term comes before the second."""
        check_term(self, first)
        check_term(self, second)
        return order_key(self, first) < order_key(self, second)

    def has(self, name):
        """Whether a symbol has this name."""
        return isinstance(name, str) and name in self._spots

    def has_form(self, part):
        """Whether a tuple begins with a symbol's name and has its number of parts."""
        if not isinstance(part, tuple) or len(part) == 0 or not self.has(part[0]):
            return False
        return len(part) == 1 + self.places_of(part[0])

    def spot_of(self, name):
        """How many symbols are declared before this one."""
        return self._spots[name]

    def places_of(self, name):
        """The number of places of a symbol."""
        return self._symbols[self._spots[name]][1]

    def is_done(self, name):
        """Whether a symbol is a value symbol."""
        return self._symbols[self._spots[name]][2]

    def order_of(self, name):
        """The evaluated places of a symbol, in the order of evaluation."""
        return self._symbols[self._spots[name]][3]


def all_parts(term):
    """The term and all within it: a tuple ahead of its parts, parts from left to right."""
    listed = []
    waiting = [term]
    while waiting:
        part = waiting.pop()
        listed.append(part)
        # The last part goes in first, so that the first one comes out next.
        waiting.extend(part[:0:-1])
    return listed


def wrong_part(signature, term):
    """The first part that makes a tuple no term, or None."""
    for part in all_parts(term):
        if not signature.has_form(part):
            return part
    return None


def check_term(signature, term):
    """Raise BadTerm if the tuple is no term."""
    part = wrong_part(signature, term)
    if part is not None:
        raise BadTerm(part)


def order_key(signature, term):
    """The size and the symbol's spot of each part: terms compare as these lists do.

    Of two terms that differ, the first parts that differ stand at the same
    index, because all ahead of them is equal and so has the same sizes.
    """
    key = []
    sizes = []
    # Backwards, the parts of a term come before it: the first of them last.
    for part in all_parts(term)[::-1]:
        size = 1
        for _ in part[1:]:
            size += sizes.pop()
        sizes.append(size)
        key.append((size, signature.spot_of(part[0])))
    return key[::-1]


def make(signature, name, *parts):
    """The term that begins with this name and has these parts."""
    term = (name, *parts)
    check_term(signature, term)
    return term


def terms(signature, size):
    """All terms of this size, in order."""
    by_size = [[]]
    while len(by_size) <= size:
        by_size.append(next_larger(signature, by_size))
    yield from by_size[-1]


def next_larger(signature, by_size):
    """The terms that are one symbol larger than the largest of by_size, in order."""
    larger = []
    for symbol in signature.symbols:
        for parts in parts_together(by_size, symbol[1], len(by_size) - 1):
            larger.append((symbol[0], *parts))
    return larger


def parts_together(by_size, places, size):
    """The tuples of a term for each place that have this size together, in order."""
    if places == 0:
        return [()] if size == 0 else []
    rows = []
    for first_size in range(1, size + 1):
        others = parts_together(by_size, places - 1, size - first_size)
        rows.extend([(first, *row) for first in by_size[first_size] for row in others])
    return rows

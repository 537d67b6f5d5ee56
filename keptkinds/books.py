"""Books of kinds, and the comparison of two of them."""
from keptkinds.errors import BadEntry, BadKind, BadSymbol, OtherBook
from keptkinds.growth import fresh_picks, least_row, offer_key, rows_over
from keptkinds.terms import all_parts, check_term, is_word, wrong_part


def checked_kinds(kinds):
    """The kinds as a tuple, if they are valid and stand once."""
    checked = []
    for kind in kinds:
        if not is_word(kind) or kind in checked:
            raise BadKind(kind)
        checked.append(kind)
    return tuple(checked)


def kinds_above(kinds, under):
    """For each kind a list of itself and all above it, as declared."""
    above = {kind: [kind] for kind in kinds}
    for low, high in under:
        for kind in (low, high):
            if kind not in above:
                raise BadKind(kind)
        if low in above[high]:
            raise BadKind(low)
        for kind in kinds:
            if low in above[kind]:
                above[kind] = [one for one in kinds if one in above[kind] or one in above[high]]
    return above


def in_canonical_order(signature, kinds, entries):
    """The entries, each once, as a tuple in canonical order."""
    given = set(entries)
    ordered = []
    for symbol in signature.symbols:
        for row in rows_over(kinds, symbol[1]):
            ordered.extend([(symbol[0], row, kind) for kind in kinds if (symbol[0], row, kind) in given])
    return tuple(ordered)


class Book:
    """Kinds, which of them are under which, and entries that give kinds to terms."""

    def __init__(self, signature, kinds, *, under=(), entries=()):
        self._signature = signature
        self._kinds = checked_kinds(kinds)
        self._above = kinds_above(self._kinds, under)
        for entry in entries:
            name, row, kind = entry
            if not self._has_row(name, row) or kind not in self._kinds:
                raise BadEntry(entry)
        self._entries = in_canonical_order(signature, self._kinds, entries)

    @property
    def signature(self):
        return self._signature

    @property
    def kinds(self):
        return self._kinds

    @property
    def entries(self):
        return self._entries

    @property
    def under(self):
        return tuple([(low, high) for low in self._kinds for high in self._above[low] if low != high])

    def is_under(self, low, high):
        """Whether low is high or under it."""
        for kind in (low, high):
            if kind not in self._kinds:
                raise BadKind(kind)
        return high in self._above[low]

    def combine(self, name, sets):
        """The kinds of a term of this symbol whose parts have these kinds and those above."""
        if not self._signature.has(name):
            raise BadSymbol(name)
        return self._kinds_over(name, [self._with_above(kinds) for kinds in sets])

    def kinds_of(self, term):
        """The kinds of a term."""
        check_term(self._signature, term)
        return self._kinds_by_parts(term)

    def least_kind(self, term):
        """The one of the term's kinds that is under all of them, or None."""
        kinds = self.kinds_of(term)
        for kind in kinds:
            if all([other in self._above[kind] for other in kinds]):
                return kind
        return None

    def __contains__(self, term):
        return wrong_part(self._signature, term) is None and len(self._kinds_by_parts(term)) > 0

    def __iter__(self):
        return iter(self._entries)

    def __getitem__(self, at):
        name, kinds = at
        self._check_row(name, kinds)
        return tuple([kind for symbol, row, kind in self._entries if symbol == name and row == kinds])

    def __setitem__(self, at, worth):
        name, kinds = at
        self._check_row(name, kinds)
        for kind in worth:
            if kind not in self._kinds:
                raise BadEntry((name, kinds, kind))
        kept = [entry for entry in self._entries if entry[0] != name or entry[1] != kinds]
        told = [(name, kinds, kind) for kind in worth]
        self._entries = in_canonical_order(self._signature, self._kinds, kept + told)

    def __le__(self, other):
        if not isinstance(other, Book):
            return NotImplemented
        return parting(self, other) is None

    def __eq__(self, other):
        return isinstance(other, Book) and self <= other and other <= self

    def __and__(self, other):
        if not isinstance(other, Book):
            return NotImplemented
        check_alike(self, other)
        return with_entries(self, [entry for entry in self._entries if entry in other.entries])

    def __or__(self, other):
        if not isinstance(other, Book):
            return NotImplemented
        check_alike(self, other)
        return with_entries(self, self._entries + other.entries)

    def __sub__(self, other):
        if not isinstance(other, Book):
            return NotImplemented
        check_alike(self, other)
        return with_entries(self, [entry for entry in self._entries if entry not in other.entries])

    def _has_row(self, name, kinds):
        """Whether entries may have this name and these part kinds."""
        if not self._signature.has(name) or len(kinds) != self._signature.places_of(name):
            return False
        return all([kind in self._kinds for kind in kinds])

    def _check_row(self, name, kinds):
        if not self._has_row(name, kinds):
            raise BadEntry((name, kinds))

    def _with_above(self, kinds):
        """These kinds and all above them."""
        known = [kind for kind in kinds if kind in self._above]
        return tuple([one for one in self._kinds if any([one in self._above[kind] for kind in known])])

    def _kinds_over(self, name, sets):
        """The kinds of a term of this symbol whose parts have exactly these kinds."""
        given = []
        for symbol, row, kind in self._entries:
            if symbol == name and all([part in kinds for part, kinds in zip(row, sets)]):
                given.append(kind)
        return self._with_above(given)

    def _kinds_by_parts(self, term):
        """The kinds of what is known to be a term, from those of its smallest parts up."""
        found = []
        # Backwards, the parts of a term come before it: the first of them last.
        for part in all_parts(term)[::-1]:
            sets = []
            for _ in part[1:]:
                sets.append(found.pop())
            found.append(self._kinds_over(part[0], sets))
        return found[0]


def with_entries(book, entries):
    """A new book that has other entries than this one."""
    return Book(book.signature, book.kinds, under=book.under, entries=entries)


def copy_of(book):
    """A new book with the same entries."""
    return with_entries(book, book.entries)


def check_alike(first, second):
    """Raise OtherBook unless the entries of one book may stand in the other."""
    if first.signature.symbols != second.signature.symbols:
        raise OtherBook("the symbols differ")
    if first.kinds != second.kinds or first.under != second.under:
        raise OtherBook("the kinds differ")


class Checker:
    """A book that is called for the kinds of terms, and counts its answers."""

    def __init__(self, book):
        # No copy: a checker answers by the book as it is when it is asked.
        self._book = book
        self.asked = 0

    def __call__(self, term):
        kinds = self._book.kinds_of(term)
        self.asked += 1
        return kinds


def parting(first, second):
    """The least term that has a kind by the first book and none by the second, or None.

    The state of a term is its kinds by both books.
    """
    rows = []
    offers = fresh_offers(first, second, rows)
    while offers:
        row = least_row(offers)
        if not row[1][1]:
            return row[2]
        rows.append(row)
        known = [old[1] for old in rows]
        offers = offers + fresh_offers(first, second, rows)
        offers = [offer for offer in offers if offer[1] not in known]
    return None


def fresh_offers(first, second, rows):
    """The rows for the terms with a kind that can be made with the last row."""
    offers = []
    for spot, symbol in enumerate(first.signature.symbols):
        for picks in fresh_picks(symbol[1], len(rows)):
            states = [rows[pick][1] for pick in picks]
            kinds = first.combine(symbol[0], [state[0] for state in states])
            # A term without a kind gives none to any term around it.
            if kinds:
                others = kinds_elsewhere(second, symbol[0], [state[1] for state in states])
                parts = [rows[pick][2] for pick in picks]
                offers.append((offer_key(rows, spot, picks), (kinds, others), (symbol[0], *parts)))
    return offers


def kinds_elsewhere(book, name, sets):
    """What combine gives, and no kinds where the book has no such terms."""
    if not book.signature.has(name) or book.signature.places_of(name) != len(sets):
        return ()
    return book.combine(name, sets)

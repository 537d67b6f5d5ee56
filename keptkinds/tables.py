"""The closed table of a language: its least terms and values, for all its terms at once."""
from keptkinds.closing import Closing
from keptkinds.errors import BadKind


class Table:
    """The least term for each first symbol and tuple of kinds, and the least value."""

    def __init__(self, language):
        closing = Closing(language)
        self._signature = language.signature
        self._kinds = language.book.kinds
        self._term_rows = told_rows(closing.sets, closing.term_list)
        self._value_rows = told_rows(closing.sets, closing.value_list)

    @property
    def term_rows(self):
        return self._term_rows

    @property
    def value_rows(self):
        return self._value_rows

    def first_symbols(self, kind):
        """The first symbols of all values of this kind, in declared order."""
        if kind not in self._kinds:
            raise BadKind(kind)
        names = [name for name, kinds, _ in self._value_rows if kind in kinds]
        return tuple([symbol[0] for symbol in self._signature.symbols if symbol[0] in names])


def told_rows(sets, rows):
    """The rows as (name, kinds, term)."""
    return tuple([(term[0], sets.kinds_in(kinds), term) for _, kinds, term in rows])

"""Sets of kinds as integers, and what symbols make of them.

Bit n of such a set stands for the kind that is declared as number n. While a
language is judged, the same sets stand under the same symbols again and again.
Therefore each answer is kept.
"""


class KindSets:
    """What a book, as it is when this is made, says of sets of kinds."""

    def __init__(self, book):
        self._declared = book.kinds
        self._bits = {kind: 1 << at for at, kind in enumerate(book.kinds)}
        self._answers = {symbol[0]: {} for symbol in book.signature.symbols}
        self._gifts = {symbol[0]: [] for symbol in book.signature.symbols}
        for name, row, kind in book.entries:
            given = self._bits[kind] + sum([self._bits[high] for low, high in book.under if low == kind])
            self._gifts[name].append(([self._bits[one] for one in row], given))

    def bit(self, kind):
        """The set of this kind alone."""
        return self._bits[kind]

    def kinds_in(self, held):
        """The kinds of a set, in declared order."""
        return tuple([kind for kind in self._declared if self._bits[kind] & held])

    def over(self, name, sets):
        """The set of a term of this symbol whose parts have exactly these sets."""
        answers = self._answers[name]
        if sets not in answers:
            answers[sets] = self._given(name, sets)
        return answers[sets]

    def column(self, shape, columns, many):
        """The sets of a shape in as many cases.

        A shape is a side of a rule, or a part of one; `columns` has the list of
        the sets of each variable, one for each case.
        """
        if isinstance(shape, str):
            return columns[shape]
        if len(shape) == 1:
            return [self.over(shape[0], ()) for _ in range(many)]
        answers = self._answers[shape[0]]
        parts = [self.column(part, columns, many) for part in shape[1:]]
        # There may be thousands of cases, and most of them ask for what is known.
        return [answers[sets] if sets in answers else self.over(shape[0], sets) for sets in zip(*parts)]

    def _given(self, name, sets):
        found = 0
        for needed, given in self._gifts[name]:
            if all([bit & held for bit, held in zip(needed, sets)]):
                found = found | given
        return found

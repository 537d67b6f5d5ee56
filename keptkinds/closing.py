"""The least terms and the least values of a language, for each set of kinds.

A row is (key, kinds, term). Its kinds are a set as in kindsets.py, and keys
compare as their terms do. What kinds a term has follows from its symbol and
the sets of its parts, and a smaller part makes a smaller term. So a least term
has parts that are the least for their sets, and a few of them are enough to
judge all terms.
"""
from keptkinds.growth import least_row, rows_from
from keptkinds.kindsets import KindSets


class Closing:
    """A language with the rows of its least terms and values, all in order.

    `term_list` and `value_list` have a row for each first symbol and set of
    kinds that some term, or value, has; `least_terms` and `least_values` only
    the first of them for each set.
    """

    def __init__(self, language):
        book = language.book
        symbols = language.signature.symbols
        self.language = language
        self.entry_list = book.entries
        self.sets = KindSets(book)
        self.term_list = closed_rows(term_shapes(symbols), self.sets, [])
        self.least_terms = first_of_each_set(self.term_list)
        self.value_list = closed_rows(value_shapes(symbols), self.sets, self.least_terms)
        self.least_values = first_of_each_set(self.value_list)


def term_shapes(symbols):
    """For each symbol what closed_rows asks for, where all parts are grown."""
    return [(spot, symbol[0], symbol[1], tuple(range(symbol[1]))) for spot, symbol in enumerate(symbols)]


def value_shapes(symbols):
    """The same for each value symbol, where the parts at evaluated places are grown."""
    return [(spot, symbol[0], symbol[1], symbol[3]) for spot, symbol in enumerate(symbols) if symbol[2]]


def first_of_each_set(rows):
    """The first row for each set of kinds."""
    found = {}
    for row in rows:
        found.setdefault(row[1], row)
    return list(found.values())


def first_with_kind(rows, bit):
    """The first row for each first symbol, of the rows that have a kind."""
    found = {}
    for row in rows:
        if row[1] & bit:
            found.setdefault(row[2][0], row)
    return list(found.values())


def key_over(spot, keys):
    """What a term is ordered by, from the keys of its parts: size, symbol, parts."""
    return (1 + sum([key[0] for key in keys]), spot, *keys)


def term_over(name, parts):
    """The term that a symbol makes of the terms of these rows."""
    inner = [part[2] for part in parts]
    return (name, *inner)


def closed_rows(shapes, sets, others):
    """The least row for each first symbol and set of kinds, in order.

    A shape is (spot, name, places, grown). Parts at the grown places are taken
    from the rows that are found, parts at the other places from `others`.
    """
    best = {}
    settled = {}
    older = []
    for shape in shapes:
        keep_least(best, sets, shape, first_parts(shape, others))
    waiting = list(best.values())
    while waiting:
        # All that is still to be made is larger than the least that waits.
        newest = least_row(waiting)
        settled[state_of(newest)] = newest
        if newest[1] not in [row[1] for row in older]:
            for shape in shapes:
                keep_least(best, sets, shape, fresh_parts(shape, others, older, newest))
            older = older + [newest]
        waiting = [row for state, row in best.items() if state not in settled]
    return list(settled.values())


def state_of(row):
    """What closed_rows finds one row for: first symbol and set of kinds."""
    return (row[2][0], row[1])


def keep_least(best, sets, shape, found):
    """Put the terms that a symbol makes of the parts found where they are the least so far."""
    spot, name, _, _ = shape
    for parts in found:
        kinds = sets.over(name, tuple([part[1] for part in parts]))
        if kinds:
            row = (key_over(spot, [part[0] for part in parts]), kinds, term_over(name, parts))
            state = state_of(row)
            if state not in best or row[0] < best[state][0]:
                best[state] = row


def first_parts(shape, others):
    """The rows of parts for a symbol without grown places."""
    _, _, places, grown = shape
    return [] if grown else rows_from([others for _ in range(places)])


def fresh_parts(shape, others, older, newest):
    """The rows of parts for a symbol that have the newest row at a grown place, each once."""
    _, _, places, grown = shape
    found = []
    for first in grown:
        lists = []
        for place in range(places):
            if place not in grown:
                lists.append(others)
            elif place < first:
                lists.append(older)
            else:
                lists.append([newest] if place == first else older + [newest])
        found.extend(rows_from(lists))
    return found

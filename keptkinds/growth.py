"""Growing the least terms: from the least that are known to the next larger one.

A row is (key, state, term). The rows of a list stand in the order of their
terms, one for each state, and what state a term has follows from its symbol
and the states of its parts. So the least term of a state has parts that are
the least of their states, and it is found by putting known rows together.
"""


def rows_from(lists):
    """All tuples of one item of each list, the first place deciding their order first."""
    rows = [()]
    for items in lists:
        rows = [(*row, one) for row in rows for one in items]
    return rows


def rows_over(items, places):
    """All tuples of this many items, the first place deciding their order first."""
    return rows_from([items for _ in range(places)])


def fresh_picks(places, count):
    """The ways to pick a row for each place, of `count` rows, that use the last row.

    With no rows yet, the way to pick none is the fresh one.
    """
    return [picks for picks in rows_over(list(range(count)), places) if count == 0 or count - 1 in picks]


def offer_key(rows, spot, picks):
    """What terms made of picked rows are ordered by: size, symbol, parts.

    Since rows stand in the order of their terms, their numbers compare as the terms do.
    """
    size = 1 + sum([rows[pick][0][0] for pick in picks])
    return (size, spot, *picks)


def least_row(offers):
    """The row with the least term."""
    least = offers[0]
    for row in offers:
        if row[0] < least[0]:
            least = row
    return least

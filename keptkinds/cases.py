"""Keeping cases and moving cases, and the least terms at which one fails."""
from keptkinds.closing import first_with_kind, key_over, term_over
from keptkinds.growth import least_row, rows_from
from keptkinds.rewriting import filled, fits, variables_of


def may_fit(signature, left):
    """Whether a rule ever fits: no value begins with a working symbol."""
    shapes = [left[1 + place] for place in signature.order_of(left[0])]
    return all([isinstance(shape, str) or signature.is_done(shape[0]) for shape in shapes])


def stand_for_values(signature, left):
    """For each variable of a left side, from left to right, whether it stands for a value."""
    order = signature.order_of(left[0])
    told = []
    for place, shape in enumerate(left[1:]):
        if isinstance(shape, str):
            told.append(place in order)
        else:
            inner = signature.order_of(shape[0])
            told.extend([place in order and at in inner for at in range(len(shape) - 1)])
    return told


def variable_picks(closing, left):
    """The picks of a row for each variable of a left side, a pick for each keeping case."""
    signature = closing.language.signature
    if not may_fit(signature, left):
        return []
    told = stand_for_values(signature, left)
    return rows_from([closing.least_values if is_value else closing.least_terms for is_value in told])


def kind_columns(left, picks):
    """For each variable the list of its sets of kinds in all these picks."""
    return {variable: [pick[at][1] for pick in picks] for at, variable in enumerate(variables_of(left))}


def keeping_cases(closing, rule):
    """For each keeping case of a rule: its pick, and the sets of the left and of the right side."""
    left, right = rule
    picks = variable_picks(closing, left)
    columns = kind_columns(left, picks)
    before = closing.sets.column(left, columns, len(picks))
    after = closing.sets.column(right, columns, len(picks))
    return list(zip(picks, before, after))


def failing_cases(closing, rule):
    """The keeping cases of a rule in which the right side lacks a kind of the left side."""
    return [case for case in keeping_cases(closing, rule) if case[1] & ~case[2]]


def shape_key(signature, shape, keys):
    """The key of a shape, by the keys of its variables."""
    if isinstance(shape, str):
        return keys[shape]
    parts = [shape_key(signature, part, keys) for part in shape[1:]]
    return key_over(signature.spot_of(shape[0]), parts)


def least_case(closing, left, cases):
    """(key, case) for the keeping case that makes the least left side, or None."""
    least = None
    smallest = 0
    for case in cases:
        # The rest of the left side is the same in all cases.
        size = sum([row[0][0] for row in case[0]])
        if least is None or size <= smallest:
            keys = {variable: row[0] for variable, row in zip(variables_of(left), case[0])}
            key = shape_key(closing.language.signature, left, keys)
            if least is None or key < least[0]:
                least = (key, case)
                smallest = size
    return least


def side_over(left, side, case):
    """A side of a rule with the least terms of a case in place of its variables."""
    return filled(side, {variable: row[2] for variable, row in zip(variables_of(left), case[0])})


def least_lost(closing):
    """(term, rule number, next term, kind) for the least term at which a step loses a kind, behind its key.

    Both are None if there is none. Such a term is its own active place: a step
    within a part that keeps the kinds of the part keeps those around it, too.
    """
    best = None
    for number, rule in enumerate(closing.language.rules):
        least = least_case(closing, rule[0], failing_cases(closing, rule))
        # Of the rules that lose a kind at the same term, the first one is told.
        if least is not None and (best is None or least[0] < best[0]):
            best = (least[0], number, least[1])
    if best is None:
        return (None, None)
    key, number, case = best
    left, right = closing.language.rules[number]
    lost = closing.sets.kinds_in(case[1] & ~case[2])
    return (key, (side_over(left, left, case), number, side_over(left, right, case), lost[0]))


def rows_at(closing, name, place):
    """The rows for a place in a moving case of a symbol."""
    return closing.value_list if place in closing.language.signature.order_of(name) else closing.term_list


def count_cases(closing):
    """How many keeping cases and moving cases there are."""
    total = sum([len(variable_picks(closing, left)) for left, _ in closing.language.rules])
    for name, places, done, _ in closing.language.signature.symbols:
        if not done:
            many = 1
            for place in range(places):
                many = many * len(rows_at(closing, name, place))
            total += many
    return total


def least_stuck(closing):
    """The least stuck term that has a kind, behind its key. Both are None if there is none.

    Such a term is its own active place, for its part there would be stuck, too.
    """
    rows = [row for entry in closing.entry_list for row in stuck_rows(closing, entry)]
    return least_row(rows) if rows else (None, None)


def stuck_rows(closing, entry):
    """(key, term) of stuck terms that have a kind by an entry, the least of them included.

    Whether a rule fits depends on the first symbols of the parts alone, so that
    the least parts of each first symbol are enough.
    """
    name, kinds, _ = entry
    signature = closing.language.signature
    if signature.is_done(name):
        return []
    lists = []
    for place, kind in enumerate(kinds):
        lists.append(first_with_kind(rows_at(closing, name, place), closing.sets.bit(kind)))
    rows = []
    for parts in rows_from(lists):
        term = term_over(name, parts)
        if not some_rule_fits(closing.language, term):
            rows.append((key_over(signature.spot_of(name), [part[0] for part in parts]), term))
    return rows


def some_rule_fits(language, term):
    """Whether a rule fits at a term that is its own active place."""
    return any([fits(left, term) for left, _ in language.rules])


def all_hold(closing):
    """Whether all cases hold. This is less work than to look for the least terms against it."""
    if least_stuck(closing)[1] is not None:
        return False
    for rule in closing.language.rules:
        if failing_cases(closing, rule):
            return False
    return True

"""Whether a language is sound, what is used in it, and where a least kind is missing."""
from keptkinds.cases import all_hold, count_cases, keeping_cases, least_case, least_lost, least_stuck, side_over
from keptkinds.closing import Closing


class Verdict:
    """What judging a language told. It never changes."""

    def __init__(self, stuck, lost, witness, cases):
        self._stuck = stuck
        self._lost = lost
        self._witness = witness
        self._cases = cases

    @property
    def sound(self):
        return self._witness is None

    @property
    def stuck(self):
        return self._stuck

    @property
    def lost(self):
        return self._lost

    @property
    def witness(self):
        return self._witness

    @property
    def cases(self):
        return self._cases


def judge(language):
    """The verdict on a language, by all its keeping and moving cases."""
    closing = Closing(language)
    stuck_key, stuck = least_stuck(closing)
    lost_key, lost = least_lost(closing)
    if lost is None or (stuck is not None and stuck_key < lost_key):
        witness = stuck
    else:
        witness = lost[0]
    return Verdict(stuck, lost, witness, count_cases(closing))


def is_sound(language):
    """What judge tells as `sound`, sooner."""
    return all_hold(Closing(language))


def uses(language):
    """Each entry, rule number and symbol name, in a pair with the least term that uses it, or None."""
    closing = Closing(language)
    entries = [(entry, least_by_entry(closing, entry)) for entry in closing.entry_list]
    rules = [(number, least_by_rule(closing, rule)) for number, rule in enumerate(language.rules)]
    names = [symbol[0] for symbol in language.signature.symbols]
    symbols = [(name, first_term([row for row in closing.term_list if row[2][0] == name])) for name in names]
    return (tuple(entries), tuple(rules), tuple(symbols))


def first_term(rows):
    """The term of the first row, or None."""
    return rows[0][2] if rows else None


def least_by_entry(closing, entry):
    """The least term that begins with the symbol of an entry and whose parts have its kinds, or None."""
    name, kinds, _ = entry
    parts = [least_of_kind(closing, kind) for kind in kinds]
    return None if None in parts else (name, *parts)


def least_of_kind(closing, kind):
    """The least term of a kind, or None."""
    return first_term([row for row in closing.least_terms if row[1] & closing.sets.bit(kind)])


def least_by_rule(closing, rule):
    """The least term with a kind that is its own active place and at which a rule fits, or None."""
    left = rule[0]
    least = least_case(closing, left, [case for case in keeping_cases(closing, rule) if case[1]])
    return None if least is None else side_over(left, left, least[1])


def ambiguous(language):
    """The least term with a kind but no least kind, or None."""
    book = language.book
    closing = Closing(language)
    return first_term([row for row in closing.least_terms if not has_least(book, closing.sets.kinds_in(row[1]))])


def has_least(book, kinds):
    """Whether one of these kinds is under all of them."""
    return any([all([book.is_under(kind, other) for other in kinds]) for kind in kinds])

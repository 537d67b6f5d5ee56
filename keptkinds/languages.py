"""Languages: a book of kinds and rules, and the steps and runs of its terms."""
from keptkinds.books import copy_of
from keptkinds.errors import BadRule, LostKind, Stuck
from keptkinds.rewriting import active_path, bindings, filled, fits, is_rule, part_at, replaced
from keptkinds.terms import all_parts, check_term

MOST_SYMBOLS = 100


class Language:
    """A copy of a book, and rules over the symbols of its signature."""

    def __init__(self, book, rules):
        self._book = copy_of(book)
        self._rules = tuple(rules)
        for rule in self._rules:
            if not is_rule(book.signature, rule):
                raise BadRule(rule)

    @property
    def signature(self):
        return self._book.signature

    @property
    def book(self):
        return copy_of(self._book)

    @property
    def rules(self):
        return self._rules

    def active(self, term):
        """The path to the active place, None for a value."""
        check_term(self.signature, term)
        return active_path(self.signature, term)

    def is_value(self, term):
        """Whether a term is a value."""
        return self.active(term) is None

    def steps(self, term):
        """A list of (rule number, next term) for each step, by rule."""
        path = self.active(term)
        if path is None:
            return []
        part = part_at(term, path)
        found = []
        for number, (left, right) in enumerate(self._rules):
            if fits(left, part):
                found.append((number, replaced(term, path, filled(right, bindings(left, part)))))
        return found

    def kept_step(self, term):
        """The next term by the first rule that fits, None for a value."""
        if self.is_value(term):
            return None
        ways = self.steps(term)
        if not ways:
            raise Stuck(term, 0, None)
        after = ways[0][1]
        kind = self._first_lost(term, after)
        if kind is not None:
            raise LostKind(term, after, kind)
        return after

    def run(self, term, *, most=20):
        """A list of the run's terms, the one passed first."""
        trail = [term]
        ended = self.is_value(term)
        while not ended and len(trail) <= most:
            ways = self.steps(trail[-1])
            if not ways:
                self._raise_stuck(trail)
            after = ways[0][1]
            if len(all_parts(after)) > MOST_SYMBOLS:
                return trail
            trail.append(after)
            ended = self.is_value(after)
        return trail

    def _first_lost(self, before, after):
        """The first kind of one term that the next one does not have, or None."""
        kept = self._book.kinds_of(after)
        for kind in self._book.kinds_of(before):
            if kind not in kept:
                return kind
        return None

    def _raise_stuck(self, trail):
        """Raise Stuck for the last term of a run, with its first step that loses a kind."""
        last = trail[-1]
        count = len(trail) - 1
        for before, after in zip(trail, trail[1:]):
            kind = self._first_lost(before, after)
            if kind is not None:
                raise Stuck(last, count, (before, after, kind)) from LostKind(before, after, kind)
        raise Stuck(last, count, None)

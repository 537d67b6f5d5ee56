"""Changes to a language, and which of them make it sound."""
from itertools import combinations

from keptkinds.books import Book, with_entries
from keptkinds.errors import BadChange, BadSymbol
from keptkinds.growth import rows_over
from keptkinds.languages import Language
from keptkinds.terms import Signature
from keptkinds.verdicts import is_sound, judge


def all_changes(language):
    """All changes that a language has: entries, rules, places."""
    entries = [("entry", entry) for entry in language.book.entries]
    rules = [("rule", number) for number in range(len(language.rules))]
    symbols = language.signature.symbols
    places = [("place", symbol[0], place) for symbol in symbols for place in range(symbol[1])]
    return tuple(entries + rules + places)


def check_changes(language, changes):
    """Raise BadChange for the first change that the language does not have, or that repeats."""
    known = all_changes(language)
    for at, change in enumerate(changes):
        if change not in known or change in changes[:at]:
            raise BadChange(change)


def changed(language, *changes):
    """A new language, with these changes made."""
    check_changes(language, changes)
    return with_changes(language, changes)


def with_changes(language, changes):
    """A new language, with changes made that are known to be good."""
    book = language.book
    signature = Signature([with_places(symbol, changes) for symbol in language.signature.symbols])
    entries = [entry for entry in book.entries if ("entry", entry) not in changes]
    rules = [rule for number, rule in enumerate(language.rules) if ("rule", number) not in changes]
    return Language(Book(signature, book.kinds, under=book.under, entries=entries), rules)


def with_places(symbol, changes):
    """The symbol with the evaluated places that these changes leave it, in their new order."""
    name, places, done, before = symbol
    order = list(before)
    for change in changes:
        if change[0] == "place" and change[1] == name:
            if change[2] in order:
                order.remove(change[2])
            else:
                order.append(change[2])
    return (name, places, done, tuple(order))


def repairs(language, candidates, *, most=2):
    """A list of (changes, against) for each repair, `against` telling a witness for each smaller set.

    A set is kept as the numbers of its changes among the candidates.
    """
    listed = list(candidates)
    check_changes(language, listed)
    witnesses = {}
    told = []
    for repair in least_sound_sets(language, listed, most):
        for picked in smaller_sets(repair):
            if picked not in witnesses:
                witnesses[picked] = judge(with_changes(language, changes_at(listed, picked))).witness
        against = tuple([(changes_at(listed, picked), witnesses[picked]) for picked in smaller_sets(repair)])
        told.append((changes_at(listed, repair), against))
    return told


def least_sound_sets(language, candidates, most):
    """The sets of at most so many changes that give a sound language while no smaller set does."""
    found = []
    for size in range(most + 1):
        for picked in combinations(range(len(candidates)), size):
            has_smaller = any([all([at in picked for at in smaller]) for smaller in found])
            if not has_smaller and is_sound(with_changes(language, changes_at(candidates, picked))):
                found.append(picked)
    return found


def smaller_sets(picked):
    """All sets of some but not all of these numbers, and the empty one if there are any."""
    return [smaller for size in range(len(picked)) for smaller in combinations(list(picked), size)]


def changes_at(candidates, picked):
    """The changes with these numbers."""
    return tuple([candidates[at] for at in picked])


def harmless(language, name):
    """The entries of a symbol that are not in the book and that, each added alone, give a sound language."""
    signature = language.signature
    if not signature.has(name):
        raise BadSymbol(name)
    book = language.book
    rows = rows_over(book.kinds, signature.places_of(name))
    missing = [(name, row, kind) for row in rows for kind in book.kinds if kind not in book[name, row]]
    return tuple([entry for entry in missing if is_sound(with_entry(language, entry))])


def with_entry(language, entry):
    """A new language with one entry more."""
    book = language.book
    return Language(with_entries(book, book.entries + (entry,)), language.rules)

"""What the document says of tables, cases and verdicts, worked out the long way.

Terms are walked in the order in which `terms` yields them; cases are written
out one by one from the rows of the closed table.
"""
import itertools
import random

from keptkinds.books import Book
from keptkinds.languages import Language
from keptkinds.terms import Signature, terms


def walk(signature, size):
    """All terms of sizes 1 to this one, in order."""
    return [term for count in range(1, size + 1) for term in terms(signature, count)]


def steps_at(language, term):
    """The steps of a term that is its own active place, no steps for any other."""
    return language.steps(term) if language.active(term) == () else []


def rows(language, size, only_values=False):
    """The rows of the closed table whose terms have at most this size."""
    found = {}
    for term in walk(language.signature, size):
        kinds = language.book.kinds_of(term)
        if kinds and (language.is_value(term) or not only_values):
            found.setdefault((term[0], kinds), term)
    return [(name, kinds, term) for (name, kinds), term in found.items()]


def stuck(language, size):
    """The first term up to a size that is stuck and has a kind, or None."""
    for term in walk(language.signature, size):
        if term in language.book and not language.is_value(term) and not language.steps(term):
            return term
    return None


def lost(language, size):
    """What a verdict tells as `lost`, for the terms up to a size."""
    book = language.book
    for term in walk(language.signature, size):
        for number, after in language.steps(term):
            kept = book.kinds_of(after)
            for kind in book.kinds_of(term):
                if kind not in kept:
                    return (term, number, after, kind)
    return None


def first(terms_found, signature):
    """The first of some terms or Nones, or None."""
    found = [term for term in terms_found if term is not None]
    for term in found:
        if all(term == other or signature.precedes(term, other) for other in found):
            return term
    return None


def variables(signature, left):
    """(variable, whether it stands for a value) of a left side; None if the rule never fits."""
    found = []
    order = signature_of(signature, left[0])[3]
    for place, shape in enumerate(left[1:]):
        if isinstance(shape, str):
            found.append((shape, place in order))
            continue
        _, _, done, inner = signature_of(signature, shape[0])
        if place in order and not done:
            return None
        found.extend((one, place in order and at in inner) for at, one in enumerate(shape[1:]))
    return found


def signature_of(signature, name):
    return [symbol for symbol in signature.symbols if symbol[0] == name][0]


def shape_kinds(book, shape, given):
    if isinstance(shape, str):
        return given[shape]
    return book.combine(shape[0], [shape_kinds(book, part, given) for part in shape[1:]])


def keeping(language, table):
    """{case: whether it holds} for the keeping cases."""
    cases = {}
    book = language.book
    for number, (left, right) in enumerate(language.rules):
        found = variables(language.signature, left)
        if found is None:
            continue
        choices = [
            sorted({kinds for _, kinds, _ in (table.value_rows if value else table.term_rows)}) for _, value in found]
        for picked in itertools.product(*choices):
            given = {variable: kinds for (variable, _), kinds in zip(found, picked)}
            kept = shape_kinds(book, right, given)
            cases["keeping", number, picked] = all(kind in kept for kind in shape_kinds(book, left, given))
    return cases


def moving(language, table):
    """{case: whether it holds} for the moving cases."""
    cases = {}
    book = language.book
    for name, places, done, order in language.signature.symbols:
        if done:
            continue
        choices = [table.value_rows if place in order else table.term_rows for place in range(places)]
        for picked in itertools.product(*choices):
            term = (name,) + tuple(row[2] for row in picked)
            assert language.active(term) == ()
            case = ("moving", name, tuple(row[:2] for row in picked))
            cases[case] = bool(language.steps(term)) or term not in book
    return cases


def cases(language, table):
    return {**keeping(language, table), **moving(language, table)}


def used(language, size):
    """What `uses` tells, for the terms up to a size."""
    book = language.book
    entries = dict.fromkeys(book.entries)
    rules = dict.fromkeys(range(len(language.rules)))
    names = dict.fromkeys(symbol[0] for symbol in language.signature.symbols)
    for term in walk(language.signature, size):
        sets = [book.kinds_of(part) for part in term[1:]]
        for entry, told in entries.items():
            if told is None and entry[0] == term[0] and all(one in kinds for one, kinds in zip(entry[1], sets)):
                entries[entry] = term
        if term not in book:
            continue
        if names[term[0]] is None:
            names[term[0]] = term
        for number, _ in steps_at(language, term):
            if rules[number] is None:
                rules[number] = term
    return tuple(entries.items()), tuple(rules.items()), tuple(names.items())


def ambiguous(language, size):
    """The first term up to a size with a kind but no least kind, or None."""
    book = language.book
    for term in walk(language.signature, size):
        if term in book and book.least_kind(term) is None:
            return term
    return None


def every_entry(book, symbols):
    return [
        (name, row, kind) for name, places, _, _ in symbols
        for row in itertools.product(book.kinds, repeat=places) for kind in book.kinds]


def chance_right(chance, symbols, names, depth):
    """A right side over these variables."""
    if names and chance.random() < (0.3 if depth else 1):
        return chance.choice(names)
    fitting = [symbol for symbol in symbols if depth or symbol[1] == 0] or symbols
    name, places, _, _ = chance.choice(fitting)
    return (name,) + tuple(chance_right(chance, symbols, names, max(depth - 1, 0)) for _ in range(places))


def chance_rule(chance, symbols, working):
    """A rule for a working symbol."""
    fresh = iter("abcdefghijkl")
    left = [working[0]]
    for _ in range(working[1]):
        name, places, done, _ = chance.choice(symbols)
        if chance.random() < 0.4 or (not done and chance.random() < 0.7):
            left.append(next(fresh))
        else:
            left.append((name,) + tuple(next(fresh) for _ in range(places)))
    names = [one for shape in left[1:] for one in ([shape] if isinstance(shape, str) else shape[1:])]
    return (tuple(left), chance_right(chance, symbols, names, 2))


def chance_symbols(chance):
    """Some symbols, a constant among them."""
    symbols = [("zero", 0, True, ())]
    for name in ("one", "two", "go", "more")[:chance.randint(1, 4)]:
        places = chance.choice([0, 1, 1, 2, 2, 3]) if len(symbols) < 4 else chance.choice([0, 1])
        order = [place for place in range(places) if chance.random() < 0.6]
        chance.shuffle(order)
        symbols.append((name, places, name == "one" or chance.random() < 0.3, tuple(order)))
    return symbols


def chance_book(chance, signature):
    kinds = ["p", "q", "r"][:chance.randint(1, 3)]
    under = [pair for pair in itertools.combinations(kinds, 2) if chance.random() < 0.3]
    book = Book(signature, kinds, under=under)
    every = every_entry(book, signature.symbols)
    small = [entry for entry in every if len(entry[1]) < 2]
    picked = [chance.choice(small) for _ in range(chance.randint(0, 5))]
    picked += [chance.choice(every) for _ in range(chance.randint(0, 6))]
    return Book(signature, kinds, under=under, entries=[("zero", (), kinds[0])] + picked)


def chance_language(seed):
    """A small language, the same one for the same seed."""
    chance = random.Random(seed)
    symbols = chance_symbols(chance)
    working = [symbol for symbol in symbols if not symbol[2]]
    rules = [chance_rule(chance, symbols, one) for one in working for _ in range(chance.randint(0, 2))]
    return Language(chance_book(chance, Signature(symbols)), rules[:4])

"""Languages on top of a base, which are judged by their own cases alone."""
from keptkinds.errors import NotOnTop
from keptkinds.verdicts import Verdict, judge


def judge_on_top(base, language):
    """The verdict on a language by its own cases, where it is on top of a sound base.

    A case of the base is a case of the language, too, and holds there as it
    does in the base: it asks for symbols, kinds and entries of the base alone.
    So the own cases are all the others, and whatever fails is among them.
    """
    check_on_top(base, language)
    below = judge(base)
    if not below.sound:
        raise NotOnTop("base")
    whole = judge(language)
    return Verdict(whole.stuck, whole.lost, whole.witness, whole.cases - below.cases)


def check_on_top(base, language):
    """Raise NotOnTop for the first of its words that fails, apart from "base"."""
    ground, book = base.book, language.book
    told = [
        ("symbols", begins_with(language.signature.symbols, base.signature.symbols)),
        ("kinds", begins_with(book.kinds, ground.kinds)),
        ("under", all([highs_of(book, kind) == highs_of(ground, kind) for kind in ground.kinds])),
        ("entries", entries_within(book, ground) == list(ground.entries)),
        ("rules", has_rules_on_top(base, language)),
    ]
    for what, holds in told:
        if not holds:
            raise NotOnTop(what)


def begins_with(row, start):
    """Whether a tuple begins with another one."""
    return row[:len(start)] == start


def highs_of(book, kind):
    """The other kinds that a kind is under."""
    return [high for low, high in book.under if low == kind]


def entries_within(book, ground):
    """The entries of a book whose symbol and part kinds all belong to another one."""
    found = []
    for entry in book.entries:
        if ground.signature.has(entry[0]) and all([kind in ground.kinds for kind in entry[1]]):
            found.append(entry)
    return found


def has_rules_on_top(base, language):
    """Whether the rules begin with those of the base, and each later one has a symbol of its own."""
    later = language.rules[len(base.rules):]
    if not begins_with(language.rules, base.rules):
        return False
    return all([has_own_symbol(base.signature, left) for left, _ in later])


def has_own_symbol(signature, left):
    """Whether a left side has a symbol that is not in the signature."""
    patterns = [shape for shape in left[1:] if not isinstance(shape, str)]
    return any([not signature.has(shape[0]) for shape in [left, *patterns]])

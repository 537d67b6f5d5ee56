"""A small language that most tests share."""
from keptkinds.books import Book
from keptkinds.languages import Language
from keptkinds.terms import Signature

# add evaluates its second place first; pair evaluates its first place only.
SYMBOLS = [
    ("zero", 0, True, ()),
    ("succ", 1, True, (0,)),
    ("pair", 2, True, (0,)),
    ("add", 2, False, (1, 0)),
    ("fst", 1, False, (0,)),
]
KINDS = ["nat", "num", "both"]
UNDER = [("nat", "num")]
ENTRIES = [
    ("zero", (), "nat"),
    ("succ", ("num",), "num"),
    ("succ", ("nat",), "nat"),
    ("pair", ("num", "num"), "both"),
    ("add", ("num", "num"), "num"),
    ("fst", ("both",), "num"),
]
RULES = [
    (("add", ("zero",), "y"), "y"),
    (("add", ("succ", "x"), "y"), ("succ", ("add", "x", "y"))),
    (("fst", ("pair", "x", "y")), "x"),
]

ZERO = ("zero",)
ONE = ("succ", ZERO)
TWO = ("succ", ONE)


def signature():
    return Signature(SYMBOLS)


def book(entries=ENTRIES):
    return Book(signature(), KINDS, under=UNDER, entries=entries)


def language(rules=RULES, entries=ENTRIES):
    return Language(book(entries), rules)


def pair(first, second):
    return ("pair", first, second)


def add(first, second):
    return ("add", first, second)


def fst(term):
    return ("fst", term)


def succ(term, times=1):
    for _ in range(times):
        term = ("succ", term)
    return term

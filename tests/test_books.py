"""Points 9 to 11 and the operators of point 12 that make books; Checker."""
import itertools
import random
import unittest
from unittest import mock

from keptkinds.books import Book, Checker
from keptkinds.errors import BadEntry, BadKind, BadSymbol, BadTerm, OtherBook
from keptkinds.terms import Signature, terms
from tests.samples import ENTRIES, KINDS, ONE, SYMBOLS, TWO, UNDER, ZERO, add, book, fst, pair, signature, succ

CHAIN = ["a", "b", "c", "d"]


def empty(kinds=KINDS, under=UNDER):
    return Book(signature(), kinds, under=under)


def plain_kinds(book, term):
    """The kinds of a term by the words of point 9."""
    parts = [plain_kinds(book, part) for part in term[1:]]
    found = set()
    for name, row, kind in book.entries:
        if name == term[0] and all(one in kinds for one, kinds in zip(row, parts)):
            found.add(kind)
            found.update(high for low, high in book.under if low == kind)
    return tuple(kind for kind in book.kinds if kind in found)


class Kinds(unittest.TestCase):
    def assert_bad(self, bad, kinds, under=()):
        with self.assertRaises(BadKind) as caught:
            Book(signature(), kinds, under=under, entries=[("wrong", ("wrong",), "wrong")])
        self.assertEqual(caught.exception.kind, bad)

    def test_declared_order(self):
        self.assertEqual(Book(signature(), ["b", "a", "abcdwxyz"]).kinds, ("b", "a", "abcdwxyz"))

    def test_bad_kinds(self):
        for bad in ("", "abcdefghi", "Nat", "a1", "a b", "\u00e9", "nat\n"):
            with self.subTest(bad):
                self.assert_bad(bad, ["a", bad, "a"])

    def test_a_kind_given_before(self):
        self.assert_bad("a", ["b", "a", "c", "a", "b"])

    def test_no_error_for_other_numbers(self):
        self.assertEqual(Book(signature(), []).entries, ())
        self.assertEqual(len(Book(signature(), "abcdefgh").kinds), 8)

    def test_an_undeclared_low(self):
        self.assert_bad("x", ["a", "b"], [("a", "b"), ("x", "y"), ("b", "a")])

    def test_an_undeclared_high(self):
        self.assert_bad("y", ["a", "b"], [("a", "b"), ("b", "y"), ("x", "a")])

    def test_a_kind_under_itself(self):
        self.assert_bad("b", ["a", "b"], [("a", "b"), ("b", "b")])

    def test_a_kind_under_one_that_is_under_it(self):
        self.assert_bad("b", ["a", "b"], [("a", "b"), ("b", "a")])
        self.assert_bad("c", CHAIN, [("a", "b"), ("b", "c"), ("c", "a"), ("d", "d")])
        self.assert_bad("c", CHAIN, [("b", "c"), ("a", "b"), ("c", "a")])
        self.assert_bad("d", CHAIN, [("a", "b"), ("c", "d"), ("b", "c"), ("d", "a")])

    def test_pair_by_pair(self):
        # The fault of the first pair comes before the undeclared kinds of the second.
        self.assert_bad("a", ["a", "b"], [("a", "a"), ("x", "y")])
        self.assert_bad("x", ["a", "b"], [("x", "y"), ("a", "a")])

    def test_kinds_come_before_pairs(self):
        self.assert_bad("A", ["a", "A"], [("x", "y")])

    def test_a_pair_may_repeat_or_be_implied(self):
        pairs = [("a", "b"), ("b", "c"), ("a", "c"), ("a", "b")]
        self.assertEqual(Book(signature(), CHAIN, under=pairs).under, (("a", "b"), ("a", "c"), ("b", "c")))

    def test_under_is_all_pairs_by_low_then_high(self):
        made = Book(signature(), ["c", "b", "d", "a"], under=[("a", "b"), ("b", "c"), ("d", "b")])
        self.assertEqual(made.under, (("b", "c"), ("d", "c"), ("d", "b"), ("a", "c"), ("a", "b")))

    def test_under_whatever_the_order_of_the_pairs(self):
        pairs = [("a", "b"), ("b", "c"), ("c", "d")]
        for turned in itertools.permutations(pairs):
            made = Book(signature(), CHAIN, under=turned)
            self.assertEqual(made.under, tuple(itertools.combinations(CHAIN, 2)))

    def test_no_pairs(self):
        self.assertEqual(Book(signature(), CHAIN).under, ())

    def test_is_under(self):
        made = Book(signature(), CHAIN, under=[("a", "b"), ("b", "c")])
        for low, high in itertools.product(CHAIN, repeat=2):
            wanted = low == high or (low, high) in made.under
            self.assertIs(made.is_under(low, high), wanted)

    def test_is_under_raises_for_low_then_high(self):
        for low, high, bad in (("x", "y", "x"), ("nat", "y", "y"), ("x", "nat", "x"), ("x", "x", "x")):
            with self.assertRaises(BadKind) as caught:
                book().is_under(low, high)
            self.assertEqual(caught.exception.kind, bad)


class Entries(unittest.TestCase):
    def test_canonical_order(self):
        wanted = (
            ("zero", (), "nat"), ("zero", (), "both"),
            ("succ", ("nat",), "num"), ("succ", ("num",), "nat"), ("succ", ("num",), "both"),
            ("pair", ("nat", "both"), "nat"), ("pair", ("num", "nat"), "both"), ("pair", ("both", "num"), "nat"),
            ("fst", ("both",), "num"),
        )
        some = list(wanted)
        for seed in range(20):
            random.Random(seed).shuffle(some)
            self.assertEqual(book(some).entries, wanted)
        self.assertEqual(list(book(some)), list(wanted))
        self.assertEqual(tuple(book(tuple(some))), wanted)

    def test_no_duplicates(self):
        self.assertEqual(book(ENTRIES + ENTRIES[::-1]).entries, book().entries)
        self.assertEqual(len(book().entries), len(ENTRIES))

    def test_no_entries(self):
        self.assertEqual(book([]).entries, ())
        self.assertEqual(list(empty()), [])
        self.assertNotIn(ZERO, empty())

    def test_bad_entries(self):
        for bad in (
            ("nil", (), "nat"), ("nat", (), "nat"), ("zero", ("nat",), "nat"), ("succ", (), "nat"),
            ("pair", ("nat",), "nat"), ("pair", ("nat", "nat", "nat"), "nat"), ("succ", ("zero",), "nat"),
            ("pair", ("nat", "x"), "nat"), ("succ", ("nat",), "x"), ("zero", (), "zero"),
        ):
            with self.subTest(bad), self.assertRaises(BadEntry) as caught:
                book(ENTRIES + [bad, ("nul", (), "nat")])
            self.assertEqual(caught.exception.entry, bad)

    def test_what_was_passed_may_be_changed_afterwards(self):
        kinds, under, entries = list(KINDS), list(UNDER), list(ENTRIES)
        made = Book(signature(), kinds, under=under, entries=entries)
        self.assertEqual((kinds, under, entries), (KINDS, UNDER, ENTRIES))
        kinds.clear()
        under.append(("num", "both"))
        entries.clear()
        self.assertEqual(made.kinds, tuple(KINDS))
        self.assertEqual(made.under, tuple(UNDER))
        self.assertEqual(made.entries, book().entries)
        self.assertEqual(made.kinds_of(TWO), ("nat", "num"))

    def test_iteration_is_not_disturbed_by_setting(self):
        made = book()
        for name, kinds, _ in made:
            made[name, kinds] = []
        self.assertEqual(made.entries, ())


class KindsOfTerms(unittest.TestCase):
    def test_kinds_of(self):
        made = book()
        for term, kinds in (
            (ZERO, ("nat", "num")), (ONE, ("nat", "num")), (add(ONE, ZERO), ("num",)), (succ(add(ZERO, ZERO)), ("num",)),
            (pair(ZERO, ONE), ("both",)), (pair(pair(ZERO, ZERO), ZERO), ()), (fst(pair(ZERO, ZERO)), ("num",)),
            (fst(ZERO), ()), (succ(fst(ZERO)), ()),
        ):
            with self.subTest(term):
                self.assertEqual(made.kinds_of(term), kinds)
                self.assertIs(term in made, kinds != ())

    def test_declared_order_and_kinds_above(self):
        made = Book(signature(), CHAIN, under=[("d", "b"), ("b", "a")], entries=[("zero", (), "d"), ("zero", (), "c")])
        self.assertEqual(made.kinds_of(ZERO), ("a", "b", "c", "d"))
        made = Book(signature(), CHAIN, under=[("d", "b"), ("b", "a")], entries=[("zero", (), "b")])
        self.assertEqual(made.kinds_of(ZERO), ("a", "b"))

    def test_no_kinds_below(self):
        made = Book(signature(), KINDS, under=UNDER, entries=[("zero", (), "num"), ("succ", ("nat",), "nat")])
        self.assertEqual(made.kinds_of(ZERO), ("num",))
        self.assertEqual(made.kinds_of(ONE), ())

    def test_each_part_has_the_kind_of_its_own_place(self):
        made = Book(signature(), CHAIN, entries=[
            ("zero", (), "a"), ("succ", ("a",), "b"), ("pair", ("a", "b"), "c"), ("pair", ("b", "a"), "d")])
        self.assertEqual(made.kinds_of(pair(ZERO, ONE)), ("c",))
        self.assertEqual(made.kinds_of(pair(ONE, ZERO)), ("d",))
        self.assertEqual(made.kinds_of(pair(ONE, ONE)), ())

    def test_against_the_words_of_the_document(self):
        rows = {0: [()], 1: [(a,) for a in KINDS], 2: list(itertools.product(KINDS, repeat=2))}
        every = [(name, row, kind) for name, places, _, _ in SYMBOLS for row in rows[places] for kind in KINDS]
        for seed in range(40):
            chance = random.Random(seed)
            entries = [("zero", (), chance.choice(KINDS))] + chance.sample(every, 14)
            made = Book(signature(), KINDS, under=chance.choice([(), UNDER, [("both", "nat"), ("nat", "num")]]), entries=entries)
            for size in range(5):
                for term in terms(signature(), size):
                    kinds = plain_kinds(made, term)
                    self.assertEqual(made.kinds_of(term), kinds)
                    self.assertEqual(made.combine(term[0], [plain_kinds(made, part) for part in term[1:]]), kinds)
                    self.assertIs(term in made, len(kinds) > 0)

    def test_combine(self):
        made = book()
        self.assertEqual(made.combine("zero", []), ("nat", "num"))
        self.assertEqual(made.combine("succ", [("nat", "num")]), ("nat", "num"))
        self.assertEqual(made.combine("succ", [("num",)]), ("num",))
        self.assertEqual(made.combine("succ", [()]), ())
        self.assertEqual(made.combine("pair", (("num",), ("num", "nat"))), ("both",))
        self.assertEqual(made.combine("pair", [("num",), ("both",)]), ())

    def test_combine_gives_parts_the_kinds_above(self):
        self.assertEqual(book().combine("succ", [("nat",)]), ("nat", "num"))
        self.assertEqual(book().combine("add", [("nat",), ("nat",)]), ("num",))

    def test_combine_changes_nothing_passed(self):
        sets = [("nat",)]
        book().combine("succ", sets)
        self.assertEqual(sets, [("nat",)])

    def test_combine_raises_for_an_undeclared_symbol(self):
        with self.assertRaises(BadSymbol) as caught:
            book().combine("nil", [])
        self.assertEqual(caught.exception.symbol, "nil")

    def test_least_kind(self):
        made = book()
        self.assertEqual(made.least_kind(ZERO), "nat")
        self.assertEqual(made.least_kind(add(ZERO, ZERO)), "num")
        self.assertIsNone(made.least_kind(fst(ZERO)))
        made["zero", ()] = ["nat", "both"]
        self.assertIsNone(made.least_kind(ZERO))

    def test_least_kind_is_under_all_others(self):
        forked = Book(signature(), CHAIN, under=[("d", "a"), ("d", "b")], entries=[("zero", (), "d"), ("succ", ("a",), "a"),
                                                                               ("succ", ("a",), "b")])
        self.assertEqual(forked.least_kind(ZERO), "d")
        self.assertEqual(forked.kinds_of(ONE), ("a", "b"))
        self.assertIsNone(forked.least_kind(ONE))

    def test_bad_terms(self):
        made = book()
        for term, part in ((succ(("nil",)), ("nil",)), (("pair", ZERO), ("pair", ZERO)), ((), ())):
            for door in (made.kinds_of, made.least_kind):
                with self.assertRaises(BadTerm) as caught:
                    door(term)
                self.assertEqual(caught.exception.term, part)
            self.assertIs(term in made, False)

    def test_deep_terms(self):
        deep = succ(ZERO, 5000)
        self.assertEqual(book().kinds_of(deep), ("nat", "num"))
        self.assertIn(deep, book())


class Items(unittest.TestCase):
    def test_reading(self):
        made = book([("succ", ("nat",), "both"), ("succ", ("nat",), "nat"), ("succ", ("num",), "num")])
        self.assertEqual(made["succ", ("nat",)], ("nat", "both"))
        self.assertEqual(made["succ", ("num",)], ("num",))
        self.assertEqual(made["succ", ("both",)], ())
        self.assertEqual(made["zero", ()], ())

    def test_setting(self):
        made = book()
        made["pair", ("num", "num")] = ["both", "nat", "both"]
        self.assertEqual(made["pair", ("num", "num")], ("nat", "both"))
        self.assertEqual(made.entries, book(ENTRIES + [("pair", ("num", "num"), "nat")]).entries)
        made["pair", ("num", "num")] = ("num",)
        self.assertEqual(made["pair", ("num", "num")], ("num",))
        made["fst", ("nat",)] = ["nat"]
        self.assertEqual(made.entries[-2:], (("fst", ("nat",), "nat"), ("fst", ("both",), "num")))

    def test_setting_nothing_strikes(self):
        made = book()
        made["zero", ()] = []
        self.assertEqual(made["zero", ()], ())
        self.assertNotIn(ZERO, made)
        self.assertEqual(len(made.entries), len(ENTRIES) - 1)
        made["succ", ("both",)] = ()
        self.assertEqual(len(made.entries), len(ENTRIES) - 1)

    def test_what_was_set_may_be_changed_afterwards(self):
        made = book()
        told = ["both"]
        made["zero", ()] = told
        self.assertEqual(told, ["both"])
        told.append("nat")
        self.assertEqual(made["zero", ()], ("both",))

    def test_bad_places(self):
        made = book()
        for at in (("nil", ()), ("zero", ("nat",)), ("succ", ()), ("pair", ("nat",)), ("succ", ("x",)), ("pair", ("x", "nat"))):
            with self.subTest(at):
                with self.assertRaises(BadEntry) as caught:
                    made[at]
                self.assertEqual(caught.exception.entry, at)
                with self.assertRaises(BadEntry) as caught:
                    made[at] = ["x"]
                self.assertEqual(caught.exception.entry, at)
        self.assertEqual(made.entries, book().entries)

    def test_a_bad_kind_changes_nothing(self):
        made = book()
        for told in (["both", "x", "y"], ("x",)):
            with self.assertRaises(BadEntry) as caught:
                made["succ", ("nat",)] = told
            self.assertEqual(caught.exception.entry, ("succ", ("nat",), "x"))
            self.assertEqual(made.entries, book().entries)
            self.assertEqual(made.kinds_of(ONE), ("nat", "num"))


class NewBooks(unittest.TestCase):
    FIRST = [("zero", (), "nat"), ("succ", ("nat",), "nat"), ("fst", ("both",), "nat")]
    SECOND = [("succ", ("nat",), "nat"), ("succ", ("nat",), "num"), ("pair", ("nat", "nat"), "both")]

    def test_both(self):
        self.assertEqual((book(self.FIRST) & book(self.SECOND)).entries, (("succ", ("nat",), "nat"),))

    def test_either(self):
        self.assertEqual((book(self.SECOND) | book(self.FIRST)).entries, book(self.FIRST + self.SECOND).entries)

    def test_the_first_alone(self):
        self.assertEqual((book(self.FIRST) - book(self.SECOND)).entries, (self.FIRST[0], self.FIRST[2]))
        self.assertEqual((book(self.SECOND) - book(self.FIRST)).entries, (self.SECOND[1], self.SECOND[2]))

    def test_the_rest_is_kept(self):
        first = book(self.FIRST)
        for made in (first & book(), first | book(), first - book()):
            self.assertEqual(made.signature.symbols, tuple(SYMBOLS))
            self.assertEqual(made.kinds, tuple(KINDS))
            self.assertEqual(made.under, tuple(UNDER))

    def test_the_books_stay_apart(self):
        first, second = book(self.FIRST), book(self.SECOND)
        for made in (first & first, first | first, first - empty()):
            self.assertIsNot(made, first)
            made["zero", ()] = []
            made["add", ("nat", "nat")] = ["nat"]
        self.assertEqual(first.entries, book(self.FIRST).entries)
        self.assertEqual(second.entries, book(self.SECOND).entries)

    def test_pairs_may_be_told_in_other_ways(self):
        pairs = [("a", "b"), ("b", "c")]
        first = Book(signature(), CHAIN, under=pairs, entries=[("zero", (), "a")])
        second = Book(signature(), CHAIN, under=[("a", "c")] + pairs[::-1], entries=[("zero", (), "b")])
        self.assertEqual((first | second).entries, (("zero", (), "a"), ("zero", (), "b")))

    def test_other_books(self):
        longer = Signature(SYMBOLS + [("nil", 0, True, ())])
        turned = Signature(SYMBOLS[::-1])
        working = Signature([("zero", 0, False, ())] + SYMBOLS[1:])
        lazier = Signature(SYMBOLS[:3] + [("add", 2, False, (0, 1))] + SYMBOLS[4:])
        others = [Book(one, KINDS, under=UNDER) for one in (longer, turned, working, lazier)]
        others += [empty(KINDS[::-1]), empty(KINDS + ["more"]), empty(KINDS[:2]), empty(KINDS, ()), empty(KINDS, [("num", "nat")])]
        for other in others:
            for first, second in ((book(), other), (other, book())):
                for door in (lambda: first & second, lambda: first | second, lambda: first - second):
                    with self.assertRaises(OtherBook):
                        door()


class Checkers(unittest.TestCase):
    def test_answers_are_counted(self):
        checker = Checker(book())
        self.assertEqual(checker.asked, 0)
        self.assertEqual(checker(TWO), ("nat", "num"))
        self.assertEqual(checker(fst(ZERO)), ())
        self.assertEqual(checker(TWO), ("nat", "num"))
        self.assertEqual(checker.asked, 3)

    def test_refused_calls_are_not_counted(self):
        checker = Checker(book())
        checker(ZERO)
        with self.assertRaises(BadTerm) as caught:
            checker(succ(("nil",)))
        self.assertEqual(caught.exception.term, ("nil",))
        self.assertEqual(checker.asked, 1)

    def test_by_the_book_as_it_then_is(self):
        made = book()
        checker = Checker(made)
        self.assertEqual(checker(ZERO), ("nat", "num"))
        made["zero", ()] = ["both"]
        self.assertEqual(checker(ZERO), ("both",))


class OnlyBooks(unittest.TestCase):
    def test_a_book_equals_nothing_but_books(self):
        for other in (None, 1, "book", ENTRIES, book().entries, signature(), Checker(book()), mock.ANY):
            with self.subTest(other=other):
                self.assertIs(book() == other, False)
                self.assertIs(book() != other, True)


if __name__ == "__main__":
    unittest.main()

"""Point 12: parting, `<=` and `==`."""
import itertools
import random
import unittest

from keptkinds.books import Book, parting
from keptkinds.terms import Signature, terms
from tests.samples import ONE, SYMBOLS, ZERO, add, book, fst, pair, signature, succ

SOME = [("a", 0, True, ()), ("b", 1, False, (0,)), ("c", 2, True, ()), ("d", 0, False, ())]


def every_entry(symbols, kinds):
    return [
        (name, row, kind) for name, places, _, _ in symbols
        for row in itertools.product(kinds, repeat=places) for kind in kinds]


def first_parting(first, second, size):
    """The first term up to a size that has a kind by one book and none by the other."""
    for count in range(size + 1):
        for term in terms(first.signature, count):
            if term in first and term not in second:
                return term
    return None


class Parting(unittest.TestCase):
    def test_equal_books(self):
        self.assertIsNone(parting(book(), book()))
        self.assertTrue(book() <= book())
        self.assertTrue(book() == book())
        self.assertFalse(book() != book())

    def test_the_least_term(self):
        second = book()
        second["pair", ("num", "num")] = []
        self.assertEqual(parting(book(), second), pair(ZERO, ZERO))
        self.assertIsNone(parting(second, book()))
        self.assertFalse(book() <= second)
        self.assertTrue(second <= book())
        self.assertFalse(book() == second)
        self.assertFalse(second == book())

    def test_some_kind_is_enough(self):
        one = book([("zero", (), "nat"), ("succ", ("nat",), "nat")])
        other = book([("zero", (), "both"), ("succ", ("both",), "num"), ("succ", ("num",), "both")])
        self.assertTrue(one == other)
        self.assertNotEqual(one.entries, other.entries)

    def test_books_without_terms_that_have_kinds(self):
        none = book([("succ", ("nat",), "nat")])
        self.assertTrue(none <= book([]))
        self.assertTrue(none == book([]))
        self.assertTrue(book([]) <= book())
        self.assertEqual(parting(book(), none), ZERO)

    def test_least_by_size_ahead_of_symbols(self):
        second = book([("zero", (), "nat"), ("succ", ("nat",), "nat")])
        first = second | book([("pair", ("nat", "nat"), "nat"), ("fst", ("nat",), "nat")])
        self.assertEqual(parting(first, second), fst(ZERO))

    def test_least_by_the_first_symbol(self):
        second = book([("zero", (), "nat")])
        first = second | book([("fst", ("nat",), "nat"), ("succ", ("nat",), "both")])
        self.assertEqual(parting(first, second), ONE)

    def test_least_by_the_first_signature(self):
        turned = Signature([SYMBOLS[0]] + SYMBOLS[:0:-1])
        entries = [("zero", (), "nat"), ("fst", ("nat",), "nat"), ("succ", ("nat",), "both")]
        first = Book(turned, ["nat", "both"], entries=entries)
        self.assertEqual(parting(first, book([("zero", (), "nat")])), fst(ZERO))

    def test_least_by_parts(self):
        kinds = ["even", "odd"]
        entries = [("zero", (), "even"), ("succ", ("even",), "odd"), ("succ", ("odd",), "even"),
                   ("add", ("odd", "even"), "odd"), ("add", ("even", "odd"), "odd")]
        second = Book(signature(), kinds, entries=entries)
        first = Book(signature(), kinds, entries=entries + [("add", ("odd", "odd"), "even")])
        self.assertEqual(parting(first, second), add(ONE, ONE))
        third = Book(signature(), kinds, entries=entries[:3])
        self.assertEqual(parting(first, third), add(ZERO, ONE))
        self.assertIsNone(parting(third, first))

    def test_a_large_least_term(self):
        # By the second book, the third successor has no kind any more.
        first = Book(signature(), ["a"], entries=[("zero", (), "a"), ("succ", ("a",), "a")])
        second = Book(signature(), ["b", "c", "d"], entries=[
            ("zero", (), "b"), ("succ", ("b",), "c"), ("succ", ("c",), "d")])
        self.assertEqual(parting(first, second), succ(ZERO, 3))
        self.assertTrue(second <= first)


class OtherSignatures(unittest.TestCase):
    def test_undeclared_symbols_have_no_kinds(self):
        fewer = Book(Signature([SYMBOLS[0]]), ["nat"], entries=[("zero", (), "nat")])
        both = Book(Signature(SYMBOLS[:2]), ["nat"], entries=[("zero", (), "nat"), ("succ", ("nat",), "nat")])
        self.assertTrue(fewer <= both)
        self.assertFalse(both <= fewer)
        self.assertFalse(both == fewer)
        self.assertEqual(parting(both, fewer), ONE)
        self.assertIsNone(parting(fewer, both))

    def test_other_numbers_of_places(self):
        one = Book(Signature([("a", 0, True, ()), ("b", 1, True, ())]), ["k"], entries=[("a", (), "k"), ("b", ("k",), "k")])
        two = Book(Signature([("a", 0, True, ()), ("b", 2, True, ())]), ["k"], entries=[("a", (), "k"), ("b", ("k", "k"), "k")])
        self.assertEqual(parting(one, two), ("b", ("a",)))
        self.assertEqual(parting(two, one), ("b", ("a",), ("a",)))

    def test_symbols_beside_the_first_signature_do_not_matter(self):
        one = Book(Signature([("a", 0, True, ())]), ["k"], entries=[("a", (), "k")])
        other = Book(Signature([("b", 0, True, ()), ("a", 0, False, ())]), ["l"], entries=[("a", (), "l")])
        self.assertTrue(one <= other)
        self.assertTrue(one == other)
        other["b", ()] = ["l"]
        self.assertTrue(one <= other)
        self.assertEqual(parting(other, one), ("b",))


class AgainstEnumeration(unittest.TestCase):
    def compare(self, first, second):
        found = parting(first, second)
        wanted = first_parting(first, second, 6)
        if found is None or first.signature.size(found) > 6:
            self.assertIsNone(wanted)
        else:
            self.assertEqual(found, wanted)
        self.assertIs(first <= second, found is None)
        if found is not None:
            self.assertIn(found, first)
            self.assertNotIn(found, second)
        return found

    def test_many_pairs_of_books(self):
        found = []
        for seed in range(150):
            chance = random.Random(seed)
            books = []
            for kinds in (["p", "q"], ["r", "q"]):
                every = every_entry(SOME, kinds)
                entries = chance.sample(every, 9) + [("a", (), kinds[1])]
                under = chance.choice([(), [(kinds[0], kinds[1])]])
                books.append(Book(Signature(SOME), kinds, under=under, entries=entries))
            there = self.compare(books[0], books[1])
            back = self.compare(books[1], books[0])
            self.assertIs(books[0] == books[1], there is None and back is None)
            found.append(there)
        self.assertGreater(len({term for term in found}), 5)
        self.assertIn(None, found)


class NothingChanges(unittest.TestCase):
    def test_books_are_not_modified(self):
        first, second = book(), book([("zero", (), "both")])
        parting(first, second)
        first <= second
        first == second
        self.assertEqual(first.entries, book().entries)
        self.assertEqual(second.entries, (("zero", (), "both"),))


if __name__ == "__main__":
    unittest.main()

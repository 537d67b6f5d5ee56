"""Points 1 to 5: symbols, terms, their size and order, and BadTerm."""
import functools
import itertools
import unittest

from keptkinds.errors import BadSymbol, BadTerm
from keptkinds.terms import Signature, make, terms
from tests.samples import ONE, SYMBOLS, TWO, ZERO, add, fst, pair, signature, succ

THREE = [("leaf", 0, True, ()), ("fork", 2, True, ()), ("stem", 1, False, (0,)), ("tri", 3, True, (2, 0))]


def plain_size(term):
    return 1 + sum(plain_size(part) for part in term[1:])


def plain_compare(names, first, second):
    """The order of point 4, word by word: below 0 if the first comes first."""
    if plain_size(first) != plain_size(second):
        return plain_size(first) - plain_size(second)
    if first[0] != second[0]:
        return names.index(first[0]) - names.index(second[0])
    for one, other in zip(first[1:], second[1:]):
        if one != other:
            return plain_compare(names, one, other)
    return 0


def plain_terms(symbols, size):
    """All terms of a size, in no special order."""
    if size < 1:
        return []
    found = []
    for name, places, _, _ in symbols:
        for sizes in itertools.product(range(1, size), repeat=places):
            if sum(sizes) == size - 1:
                choices = [plain_terms(symbols, one) for one in sizes]
                found.extend((name, *parts) for parts in itertools.product(*choices))
    return found


def sorted_terms(symbols, size):
    names = [symbol[0] for symbol in symbols]
    compare = functools.partial(plain_compare, names)
    return sorted(plain_terms(symbols, size), key=functools.cmp_to_key(compare))


class Symbols(unittest.TestCase):
    def assert_bad(self, symbols, bad):
        with self.assertRaises(BadSymbol) as caught:
            Signature(symbols)
        self.assertEqual(caught.exception.symbol, bad)

    def test_symbols_as_declared(self):
        self.assertEqual(signature().symbols, tuple(SYMBOLS))
        self.assertEqual(Signature(tuple(SYMBOLS)).symbols, tuple(SYMBOLS))

    def test_the_list_may_be_changed_afterwards(self):
        symbols = list(SYMBOLS)
        made = Signature(symbols)
        symbols.reverse()
        symbols.pop()
        self.assertEqual(made.symbols, tuple(SYMBOLS))
        self.assertEqual(made.size(ONE), 2)

    def test_nothing_passed_is_modified(self):
        symbols = list(SYMBOLS)
        Signature(symbols)
        self.assertEqual(symbols, SYMBOLS)

    def test_names_of_1_and_of_8_letters(self):
        symbols = (("a", 0, True, ()), ("abcdwxyz", 0, False, ()))
        self.assertEqual(Signature(symbols).symbols, symbols)

    def test_bad_names(self):
        for name in ("", "abcdefghi", "Zero", "zerO", "a1", "a_b", "a b", " a", "a\n", "\u00e9", "a'", "-"):
            with self.subTest(name):
                self.assert_bad([("ok", 0, True, ()), (name, 0, True, ())], (name, 0, True, ()))

    def test_a_name_given_before(self):
        self.assert_bad([("a", 0, True, ()), ("b", 0, True, ()), ("a", 1, False, (0,))], ("a", 1, False, (0,)))

    def test_0_to_3_places(self):
        symbols = tuple((name, places, True, ()) for places, name in enumerate("abcd"))
        self.assertEqual(Signature(symbols).symbols, symbols)
        for places in (-1, 4, 5):
            with self.subTest(places=places):
                self.assert_bad([("a", places, True, ())], ("a", places, True, ()))

    def test_order(self):
        for order in ((), (0,), (2,), (2, 0), (2, 1, 0), (0, 1, 2)):
            symbols = (("a", 3, False, order),)
            self.assertEqual(Signature(symbols).symbols, symbols)
        for places, order in ((0, (0,)), (1, (1,)), (2, (-1,)), (3, (0, 3)), (3, (0, 0)), (3, (1, 2, 1)), (2, (0, 5, 1))):
            with self.subTest(places=places, order=order):
                self.assert_bad([("a", places, False, order)], ("a", places, False, order))

    def test_the_first_of_several_faults(self):
        self.assert_bad(
            [("a", 0, True, ()), ("b", 4, True, ()), ("B", 0, True, ()), ("a", 0, True, ())], ("b", 4, True, ()))
        self.assert_bad([("B", 9, True, (9, 9)), ("b", 4, True, ())], ("B", 9, True, (9, 9)))

    def test_no_error_for_other_numbers(self):
        self.assertEqual(Signature([]).symbols, ())
        many = tuple((name, 0, True, ()) for name in "abcdefghij")
        self.assertEqual(Signature(many).symbols, many)


class Terms(unittest.TestCase):
    def test_make(self):
        self.assertEqual(make(signature(), "zero"), ZERO)
        self.assertEqual(make(signature(), "pair", ZERO, ONE), ("pair", ("zero",), ("succ", ("zero",))))

    def test_size(self):
        for term, size in ((ZERO, 1), (ONE, 2), (pair(ZERO, ZERO), 3), (add(TWO, pair(ZERO, ONE)), 8)):
            self.assertEqual(signature().size(term), size)

    def test_precedes_by_size(self):
        made = signature()
        self.assertTrue(made.precedes(fst(ZERO), pair(ZERO, ZERO)))
        self.assertFalse(made.precedes(pair(ZERO, ZERO), fst(ZERO)))

    def test_precedes_by_first_symbol_as_declared(self):
        made = signature()
        self.assertTrue(made.precedes(succ(fst(ZERO)), fst(succ(ZERO))))
        self.assertFalse(made.precedes(fst(succ(ZERO)), succ(fst(ZERO))))
        turned = Signature(SYMBOLS[::-1])
        self.assertTrue(turned.precedes(fst(succ(ZERO)), succ(fst(ZERO))))

    def test_precedes_by_the_first_parts_that_differ(self):
        made = signature()
        # The first parts decide by their size, ahead of their symbols and of the second parts.
        self.assertTrue(made.precedes(pair(fst(ZERO), succ(ONE)), pair(succ(ONE), fst(ZERO))))
        self.assertTrue(made.precedes(pair(ZERO, fst(ZERO)), pair(fst(ZERO), ZERO)))
        self.assertTrue(made.precedes(pair(ONE, ZERO), pair(fst(ZERO), ZERO)))
        self.assertFalse(made.precedes(pair(ONE, fst(ZERO)), pair(ONE, ONE)))

    def test_no_term_precedes_itself(self):
        for term in (ZERO, add(ONE, pair(ZERO, TWO))):
            self.assertIs(signature().precedes(term, term), False)

    def test_precedes_against_the_words_of_the_document(self):
        names = [symbol[0] for symbol in THREE]
        made = Signature(THREE)
        some = [term for size in range(1, 5) for term in plain_terms(THREE, size)]
        for first in some:
            for second in some:
                self.assertEqual(made.precedes(first, second), plain_compare(names, first, second) < 0)


class Generated(unittest.TestCase):
    def test_small_sizes(self):
        made = signature()
        self.assertEqual(list(terms(made, 0)), [])
        self.assertEqual(list(terms(made, 1)), [ZERO])
        self.assertEqual(list(terms(made, 2)), [ONE, fst(ZERO)])
        self.assertEqual(list(terms(made, 3)), [
            TWO, succ(fst(ZERO)), pair(ZERO, ZERO), add(ZERO, ZERO), fst(ONE), fst(fst(ZERO))])

    def test_all_terms_of_a_size_in_order(self):
        for symbols in (SYMBOLS, THREE, SYMBOLS[::-1]):
            for size in range(6):
                with self.subTest(symbols=symbols, size=size):
                    self.assertEqual(list(terms(Signature(symbols), size)), sorted_terms(symbols, size))

    def test_no_error_for_other_numbers(self):
        self.assertEqual(list(terms(signature(), -1)), [])
        self.assertEqual(list(terms(signature(), 6)), sorted_terms(SYMBOLS, 6))
        self.assertEqual(list(terms(Signature([]), 3)), [])
        self.assertEqual(list(terms(Signature([("a", 1, True, ())]), 3)), [])

    def test_a_list_of_them_may_be_changed(self):
        made = signature()
        list(terms(made, 3)).clear()
        self.assertEqual(len(list(terms(made, 3))), 6)


class BadTerms(unittest.TestCase):
    def assert_bad(self, term, part):
        made = signature()
        for door in (
            lambda: made.size(term), lambda: made.precedes(term, ZERO), lambda: made.precedes(ZERO, term),
            lambda: make(made, term[0], *term[1:]),
        ):
            with self.assertRaises(BadTerm) as caught:
                door()
            self.assertEqual(caught.exception.term, part)

    def test_undeclared_names(self):
        self.assert_bad(("nil",), ("nil",))
        self.assert_bad(("nil", ZERO), ("nil", ZERO))
        self.assert_bad(succ(("nil",)), ("nil",))
        self.assert_bad(("Zero",), ("Zero",))

    def test_wrong_numbers_of_parts(self):
        self.assert_bad(("zero", ZERO), ("zero", ZERO))
        self.assert_bad(("succ",), ("succ",))
        self.assert_bad(("pair", ZERO), ("pair", ZERO))
        self.assert_bad(pair(ZERO, ("pair", ZERO, ZERO, ZERO)), ("pair", ZERO, ZERO, ZERO))

    def test_a_tuple_ahead_of_its_parts(self):
        self.assert_bad(("succ", ("nil",), ("nil",)), ("succ", ("nil",), ("nil",)))
        self.assert_bad(succ(("pair", ("nil",))), ("pair", ("nil",)))

    def test_parts_from_left_to_right(self):
        self.assert_bad(pair(succ(succ(("nil",))), ("nul",)), ("nil",))
        self.assert_bad(pair(pair(ZERO, ("succ",)), ("nul",)), ("succ",))
        self.assert_bad(pair(ZERO, pair(("nul",), ("nil",))), ("nul",))

    def test_an_empty_tuple(self):
        with self.assertRaises(BadTerm) as caught:
            signature().size(())
        self.assertEqual(caught.exception.term, ())

    def test_precedes_checks_its_first_term_first(self):
        with self.assertRaises(BadTerm) as caught:
            signature().precedes(("nil",), ("nul",))
        self.assertEqual(caught.exception.term, ("nil",))


class LargeTerms(unittest.TestCase):
    def test_terms_beyond_60_symbols(self):
        made = signature()
        large = succ(ZERO, 5000)
        self.assertEqual(made.size(large), 5001)
        self.assertTrue(made.precedes(large, fst(large)))
        self.assertFalse(made.precedes(fst(large), succ(large)))


if __name__ == "__main__":
    unittest.main()

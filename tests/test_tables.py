"""Point 13: the closed table, its rows and their order, and first_symbols."""
import unittest

from keptkinds.books import Book
from keptkinds.errors import BadKind
from keptkinds.languages import Language
from keptkinds.tables import Table
from keptkinds.terms import Signature
from tests import plain
from tests.samples import ENTRIES, ONE, ZERO, add, book, fst, language, pair, signature, succ

# A constant, a tuple of three parts of which the last one is evaluated, a box that evaluates nothing, a loop.
THREE = [("end", 0, True, ()), ("tri", 3, True, (2,)), ("box", 1, True, ()), ("go", 0, False, ())]


def table_of(symbols, kinds, entries, under=()):
    return Table(Language(Book(Signature(symbols), kinds, under=under, entries=entries), []))


class Rows(unittest.TestCase):
    def test_rows_of_terms_and_values(self):
        made = Table(language())
        both = ("nat", "num")
        self.assertEqual(made.term_rows, (
            ("zero", both, ZERO), ("succ", both, ONE), ("pair", ("both",), pair(ZERO, ZERO)),
            ("add", ("num",), add(ZERO, ZERO)), ("succ", ("num",), succ(add(ZERO, ZERO))),
            ("fst", ("num",), fst(pair(ZERO, ZERO)))))
        self.assertEqual(made.value_rows, (
            ("zero", both, ZERO), ("succ", both, ONE), ("pair", ("both",), pair(ZERO, ZERO))))

    def test_all_kinds_of_a_term_stand_in_its_row(self):
        made = Table(language(entries=[("zero", (), "both"), ("zero", (), "nat"), ("succ", ("both",), "num")]))
        self.assertEqual(made.term_rows, (("zero", ("nat", "num", "both"), ZERO), ("succ", ("num",), ONE)))

    def test_a_part_may_be_the_least_of_its_kinds_without_being_the_least_of_its_symbol(self):
        # Only every second number has a kind that the next symbol takes.
        made = Table(language(entries=[
            ("zero", (), "nat"), ("succ", ("num",), "both"), ("succ", ("both",), "nat"), ("fst", ("both",), "both")]))
        self.assertEqual(made.term_rows, (
            ("zero", ("nat", "num"), ZERO), ("succ", ("both",), ONE), ("succ", ("nat", "num"), succ(ZERO, 2)),
            ("fst", ("both",), fst(ONE))))

    def test_values_have_other_least_terms(self):
        symbols = THREE[1:] + [("end", 0, True, ())]
        made = table_of(symbols, ["a", "b"], [
            ("go", (), "a"), ("end", (), "b"), ("box", ("b",), "a"), ("tri", ("a", "a", "a"), "b")])
        go, end = ("go",), ("end",)
        self.assertEqual(made.term_rows, (
            ("go", ("a",), go), ("end", ("b",), end), ("box", ("a",), ("box", end)), ("tri", ("b",), ("tri", go, go, go))))
        # Only the last part is evaluated, so that it is a value; the others are any terms.
        self.assertEqual(made.value_rows, (
            ("end", ("b",), end), ("box", ("a",), ("box", end)), ("tri", ("b",), ("tri", go, go, ("box", end)))))

    def test_a_value_symbol_without_evaluated_places_may_hold_any_term(self):
        made = table_of(THREE, ["a"], [("go", (), "a"), ("box", ("a",), "a")])
        self.assertEqual(made.value_rows, (("box", ("a",), ("box", ("go",))),))

    def test_rows_stand_in_the_order_of_their_terms(self):
        # Declared later, but smaller; then the same size, by the first symbol, by the parts.
        symbols = [("b", 2, True, ()), ("c", 1, True, ()), ("d", 0, True, ()), ("a", 0, True, ())]
        kinds = ["p", "q", "r"]
        made = table_of(symbols, kinds, [
            ("a", (), "p"), ("d", (), "q"), ("c", ("p",), "p"), ("b", ("q", "p"), "r"), ("b", ("p", "p"), "q"),
            ("b", ("q", "q"), "q"), ("b", ("q", "q"), "r"), ("c", ("q",), "r")])
        a, d = ("a",), ("d",)
        self.assertEqual([row[2] for row in made.term_rows], [
            d, a, ("c", d), ("c", a), ("b", d, d), ("b", d, a), ("b", a, a)])
        self.assertEqual(made.term_rows[4], ("b", ("q", "r"), ("b", d, d)))
        self.assertEqual(made.value_rows, made.term_rows)

    def test_without_entries_constants_or_terms(self):
        for made in (
            table_of(THREE, ["a"], []),
            table_of(THREE[1:3], ["a"], [("tri", ("a", "a", "a"), "a"), ("box", ("a",), "a")]),
            table_of(THREE, ["a", "b"], [("tri", ("a", "a", "a"), "a"), ("box", ("b",), "b")]),
        ):
            self.assertEqual((made.term_rows, made.value_rows), ((), ()))
            self.assertEqual(made.first_symbols("a"), ())

    def test_without_values(self):
        made = table_of(THREE, ["a"], [("go", (), "a")])
        self.assertEqual((made.term_rows, made.value_rows), ((("go", ("a",), ("go",)),), ()))

    def test_a_large_least_term(self):
        # Each symbol of three places asks for one kind more: a chain of seven sets.
        symbols = [("end", 0, True, ()), ("tri", 3, True, (0, 1, 2))]
        steps = [("tri", (low,) * 3, high) for low, high in ("xy", "yz", "zx", "zy")]
        made = table_of(symbols, ["x", "y", "z"], [("end", (), "x")] + steps)
        sizes = [Signature(symbols).size(row[2]) for row in made.term_rows]
        self.assertEqual(sizes, [1, 4, 13, 40, 121, 364])
        self.assertEqual(made.term_rows[-1][:2], ("tri", ("x", "y", "z")))


class FirstSymbols(unittest.TestCase):
    def test_of_values(self):
        made = Table(language())
        self.assertEqual(made.first_symbols("nat"), ("zero", "succ"))
        self.assertEqual(made.first_symbols("num"), ("zero", "succ"))
        self.assertEqual(made.first_symbols("both"), ("pair",))

    def test_in_declared_order(self):
        symbols = [("b", 1, True, ()), ("c", 1, True, ()), ("a", 0, True, ())]
        made = table_of(symbols, ["p"], [("a", (), "p"), ("c", ("p",), "p"), ("b", ("p",), "p")])
        self.assertEqual([row[0] for row in made.value_rows], ["a", "b", "c"])
        self.assertEqual(made.first_symbols("p"), ("b", "c", "a"))

    def test_a_symbol_stands_once(self):
        made = Table(language(entries=[
            ("zero", (), "nat"), ("succ", ("nat",), "both"), ("succ", ("both",), "nat")]))
        self.assertEqual(len(made.value_rows), 3)
        self.assertEqual(made.first_symbols("nat"), ("zero", "succ"))

    def test_not_of_terms_that_are_no_values(self):
        made = Table(language(entries=ENTRIES + [("fst", ("both",), "both")]))
        self.assertEqual(made.first_symbols("both"), ("pair",))

    def test_undeclared_kinds(self):
        made = Table(language())
        for bad in ("zero", "", "nats"):
            with self.assertRaises(BadKind) as caught:
                made.first_symbols(bad)
            self.assertEqual(caught.exception.kind, bad)


class AgainstAWalk(unittest.TestCase):
    def compare(self, made, size):
        table = Table(made)
        measure = made.signature.size
        for found, values in ((table.term_rows, False), (table.value_rows, True)):
            self.assertEqual([row for row in found if measure(row[2]) <= size], plain.rows(made, size, values))
            for name, kinds, term in found:
                self.assertEqual((term[0], made.book.kinds_of(term)), (name, kinds))
                self.assertTrue(made.is_value(term) or not values)
            for before, after in zip(found, found[1:]):
                self.assertTrue(made.signature.precedes(before[2], after[2]))
            self.assertEqual(len({row[:2] for row in found}), len(found))
        self.check_closed(made, table)

    def check_closed(self, made, table):
        """What a symbol makes of the terms of rows belongs to a row again, with a least term."""
        rows = {row[:2]: row[2] for row in table.term_rows}
        parts = [row[2] for row in table.term_rows]
        for name, places, _, _ in made.signature.symbols:
            for picked in plain.itertools.product(parts, repeat=min(places, 2)):
                term = (name,) + picked + picked[:1] * (places - len(picked))
                kinds = made.book.kinds_of(term)
                if kinds:
                    self.assertFalse(made.signature.precedes(term, rows[name, kinds]))

    def test_the_sample(self):
        self.compare(language(), 4)

    def test_many_languages(self):
        for seed in range(150):
            with self.subTest(seed):
                self.compare(plain.chance_language(seed), 4)


class Copies(unittest.TestCase):
    def test_the_table_stays_as_it_is(self):
        passed = book()
        made = Table(Language(passed, []))
        rows = made.term_rows
        passed["zero", ()] = []
        self.assertEqual(made.term_rows, rows)
        self.assertEqual(made.first_symbols("nat"), ("zero", "succ"))

    def test_nothing_that_is_passed_is_modified(self):
        made = language()
        Table(made)
        self.assertEqual((made.book.entries, made.rules), (language().book.entries, language().rules))
        self.assertEqual(made.signature.symbols, signature().symbols)


if __name__ == "__main__":
    unittest.main()

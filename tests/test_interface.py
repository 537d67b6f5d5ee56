"""The names, arguments and kinds of values that the interface lists."""
import inspect
import unittest

from keptkinds import books, errors, languages, layers, mending, tables, terms, verdicts
from tests import samples

ERROR_FIELDS = {
    "BadSymbol": ["symbol"],
    "BadTerm": ["term"],
    "BadKind": ["kind"],
    "BadEntry": ["entry"],
    "BadRule": ["rule"],
    "BadChange": ["change"],
    "OtherBook": [],
    "NotOnTop": ["what"],
    "LostKind": ["before", "after", "kind"],
    "Stuck": ["term", "count", "why"],
}

OWN_METHODS = {
    terms.Signature: ["__init__", "symbols", "size", "precedes"],
    books.Book: [
        "__init__", "signature", "kinds", "entries", "under", "is_under", "combine", "kinds_of", "least_kind",
        "__contains__", "__iter__", "__getitem__", "__setitem__", "__le__", "__eq__", "__and__", "__or__", "__sub__",
    ],
    books.Checker: ["__init__", "__call__"],
    languages.Language: [
        "__init__", "signature", "book", "rules", "active", "is_value", "steps", "kept_step", "run",
    ],
    tables.Table: ["__init__", "term_rows", "value_rows", "first_symbols"],
    verdicts.Verdict: ["sound", "stuck", "lost", "witness", "cases"],
}


class Errors(unittest.TestCase):
    def test_base(self):
        self.assertEqual(errors.KindsError.__bases__, (ValueError,))

    def test_each_error_stands_under_the_base_and_has_its_fields(self):
        for name, fields in ERROR_FIELDS.items():
            with self.subTest(name):
                made = getattr(errors, name)
                self.assertEqual(made.__bases__, (errors.KindsError,))
                values = [("value", at) for at in range(len(fields))]
                error = made(*values)
                self.assertEqual([getattr(error, field) for field in fields], values)
                self.assertEqual(vars(error), dict(zip(fields, values)))


class Names(unittest.TestCase):
    def test_methods_stand_in_their_own_class(self):
        for owner, names in OWN_METHODS.items():
            for name in names:
                with self.subTest(owner=owner.__name__, name=name):
                    self.assertIn(name, vars(owner))

    def test_properties_cannot_be_assigned(self):
        language = samples.language()
        for held, name in (
            (samples.signature(), "symbols"), (language.book, "entries"), (language.book, "kinds"),
            (language.book, "under"), (language.book, "signature"),
            (language, "rules"), (language, "book"), (language, "signature"),
            *((tables.Table(language), name) for name in ("term_rows", "value_rows")),
            *((verdicts.judge(language), name) for name in OWN_METHODS[verdicts.Verdict]),
        ):
            with self.subTest(name), self.assertRaises(AttributeError):
                setattr(held, name, ())

    def test_defined_in_the_file_that_lists_them(self):
        for module, names in (
            (terms, ["Signature", "make", "terms"]),
            (books, ["Book", "Checker", "parting"]),
            (languages, ["Language"]),
            (tables, ["Table"]),
            (verdicts, ["Verdict", "judge", "uses", "ambiguous"]),
            (mending, ["all_changes", "changed", "repairs", "harmless"]),
            (layers, ["judge_on_top"]),
        ):
            for name in names:
                self.assertEqual(getattr(module, name).__module__, module.__name__)

    def test_parameters(self):
        for called, wanted in (
            (terms.Signature, "(symbols)"),
            (terms.Signature.size, "(self, term)"),
            (terms.Signature.precedes, "(self, first, second)"),
            (terms.make, "(signature, name, *parts)"),
            (terms.terms, "(signature, size)"),
            (books.Book, "(signature, kinds, *, under=(), entries=())"),
            (books.Book.is_under, "(self, low, high)"),
            (books.Book.combine, "(self, name, sets)"),
            (books.Book.kinds_of, "(self, term)"),
            (books.Book.least_kind, "(self, term)"),
            (books.Checker, "(book)"),
            (books.Checker.__call__, "(self, term)"),
            (books.parting, "(first, second)"),
            (languages.Language, "(book, rules)"),
            (languages.Language.active, "(self, term)"),
            (languages.Language.is_value, "(self, term)"),
            (languages.Language.steps, "(self, term)"),
            (languages.Language.kept_step, "(self, term)"),
            (languages.Language.run, "(self, term, *, most=20)"),
            (tables.Table, "(language)"),
            (tables.Table.first_symbols, "(self, kind)"),
            (verdicts.judge, "(language)"),
            (verdicts.uses, "(language)"),
            (verdicts.ambiguous, "(language)"),
            (mending.all_changes, "(language)"),
            (mending.changed, "(language, *changes)"),
            (mending.repairs, "(language, candidates, *, most=2)"),
            (mending.harmless, "(language, name)"),
            (layers.judge_on_top, "(base, language)"),
        ):
            with self.subTest(called=called):
                self.assertEqual(str(inspect.signature(called)), wanted)

    def test_terms_is_a_generator(self):
        self.assertTrue(inspect.isgenerator(terms.terms(samples.signature(), 2)))

    def test_kinds_of_values(self):
        language = samples.language()
        book = language.book
        table = tables.Table(language)
        used = verdicts.uses(language)
        for value in (
            language.rules, language.signature.symbols, book.kinds, book.entries, book.under,
            book["zero", ()], book.kinds_of(samples.ZERO), book.combine("zero", []), language.active(samples.fst(samples.ONE)),
            table.term_rows, table.value_rows, *table.term_rows, *table.value_rows, table.first_symbols("nat"),
            used, *used, *used[0], *used[1], *used[2], mending.all_changes(language), mending.harmless(language, "succ"),
        ):
            self.assertIs(type(value), tuple)
        for value in (language.steps(samples.ONE), language.run(samples.ONE), mending.repairs(language, [])):
            self.assertIs(type(value), list)
        for value in (language.is_value(samples.ONE), samples.ONE in book, book.is_under("nat", "num"), book <= book):
            self.assertIs(value, True)
        self.assertIs(type(book), books.Book)
        self.assertIs(type(language.signature), terms.Signature)
        self.assertIs(book.signature, language.signature)


if __name__ == "__main__":
    unittest.main()

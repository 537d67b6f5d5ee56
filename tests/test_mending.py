"""Points 17 and 18: changes, repairs and harmless entries."""
import itertools
import random
import unittest

from keptkinds.books import Book
from keptkinds.errors import BadChange, BadSymbol
from keptkinds.languages import Language
from keptkinds.mending import all_changes, changed, harmless, repairs
from keptkinds.terms import Signature
from keptkinds.verdicts import judge
from tests import plain
from tests.samples import ENTRIES, KINDS, ONE, RULES, SYMBOLS, UNDER, ZERO, add, fst, language, pair

SORTED_ENTRIES = (
    ("zero", (), "nat"), ("succ", ("nat",), "nat"), ("succ", ("num",), "num"), ("pair", ("num", "num"), "both"),
    ("add", ("num", "num"), "num"), ("fst", ("both",), "num"))
# By this rule fst gives a pair, by this entry fst takes a number.
BAD_RULE = (("fst", ("pair", "x", "y")), ("pair", "x", "y"))
BAD_ENTRY = ("fst", ("num",), "num")


def parts_of(made):
    book = made.book
    return (made.signature.symbols, book.kinds, book.under, book.entries, made.rules)


def broken():
    """The sample with a rule and an entry too many; its first rule repeats."""
    return language(RULES + [BAD_RULE, RULES[0]], ENTRIES + [BAD_ENTRY])


def order_of(made, name):
    return [symbol[3] for symbol in made.signature.symbols if symbol[0] == name][0]


class AllChanges(unittest.TestCase):
    def test_entries_rules_places(self):
        self.assertEqual(all_changes(language()), (
            *(("entry", entry) for entry in SORTED_ENTRIES), ("rule", 0), ("rule", 1), ("rule", 2),
            ("place", "succ", 0), ("place", "pair", 0), ("place", "pair", 1), ("place", "add", 0), ("place", "add", 1),
            ("place", "fst", 0)))

    def test_without_any(self):
        self.assertEqual(all_changes(Language(Book(Signature([("end", 0, True, ())]), ["p"]), [])), ())

    def test_three_places(self):
        made = Language(Book(Signature([("tri", 3, False, (2,))]), ["p"]), [])
        self.assertEqual(all_changes(made), (("place", "tri", 0), ("place", "tri", 1), ("place", "tri", 2)))


class Changed(unittest.TestCase):
    def test_no_changes(self):
        made = language()
        new = changed(made)
        self.assertIsNot(new, made)
        self.assertIs(type(new), Language)
        self.assertEqual(parts_of(new), parts_of(made))

    def test_entries(self):
        new = changed(language(), ("entry", ENTRIES[0]), ("entry", ENTRIES[3]))
        self.assertEqual(new.book.entries, SORTED_ENTRIES[1:3] + SORTED_ENTRIES[4:])
        self.assertEqual((new.book.kinds, new.book.under, new.rules), (tuple(KINDS), tuple(UNDER), tuple(RULES)))

    def test_rules_are_numbered_as_before_any_change(self):
        self.assertEqual(changed(language(), ("rule", 0), ("rule", 2)).rules, (RULES[1],))
        self.assertEqual(changed(language(), ("rule", 2), ("rule", 0)).rules, (RULES[1],))
        self.assertEqual(changed(language(RULES * 2), ("rule", 1), ("rule", 3)).rules, (RULES[0], RULES[2], RULES[1], RULES[2]))

    def test_places(self):
        for changes, wanted in (
            ([0], (1,)), ([1], (0,)), ([0, 1], ()), ([1, 0], ()),
        ):
            self.assertEqual(order_of(changed(language(), *[("place", "add", at) for at in changes]), "add"), wanted)
        self.assertEqual(order_of(changed(language(), ("place", "pair", 1)), "pair"), (0, 1))
        self.assertEqual(order_of(changed(language(), ("place", "succ", 0)), "succ"), ())

    def test_several_places_as_they_are_passed(self):
        for order, changes, wanted in (
            ((), [2, 0], (2, 0)), ((), [0, 2], (0, 2)), ((1,), [2, 0], (1, 2, 0)), ((1,), [2, 1, 0], (2, 0)),
            ((0, 1), [1, 2], (0, 2)), ((0, 1), [2, 0], (1, 2)), ((2, 0, 1), [0], (2, 1)), ((), [2, 1, 0], (2, 1, 0)),
        ):
            made = Language(Book(Signature([("tri", 3, False, order)]), ["p"]), [])
            self.assertEqual(order_of(changed(made, *[("place", "tri", at) for at in changes]), "tri"), wanted)

    def test_a_place_taken_out_and_put_at_the_end(self):
        first = changed(language(), ("place", "add", 1))
        self.assertEqual(order_of(first, "add"), (0,))
        second = changed(first, ("place", "add", 1))
        self.assertEqual(order_of(second, "add"), (0, 1))
        self.assertEqual(language().active(add(fst(ZERO), fst(ZERO))), (1,))
        self.assertEqual(second.active(add(fst(ZERO), fst(ZERO))), (0,))

    def test_changes_of_all_words(self):
        new = changed(language(), ("place", "pair", 0), ("rule", 1), ("entry", ENTRIES[1]), ("place", "pair", 1))
        self.assertEqual(order_of(new, "pair"), (1,))
        self.assertEqual(new.rules, (RULES[0], RULES[2]))
        self.assertEqual(new.book.entries, SORTED_ENTRIES[:2] + SORTED_ENTRIES[3:])

    def test_what_is_passed_stays(self):
        made = language()
        changed(made, *all_changes(made))
        self.assertEqual(parts_of(made), parts_of(language()))
        # Each of the places changes: what was evaluated is not any more, what was not is.
        self.assertEqual([symbol[3] for symbol in changed(made, *all_changes(made)).signature.symbols], [(), (), (1,), (), ()])


class BadChanges(unittest.TestCase):
    def assert_bad(self, changes, bad, made=None):
        made = made or language()
        for call in (lambda: changed(made, *changes), lambda: repairs(made, changes), lambda: repairs(made, tuple(changes), most=0)):
            with self.assertRaises(BadChange) as caught:
                call()
            self.assertEqual(caught.exception.change, bad)

    def test_changes_that_the_language_does_not_have(self):
        for bad in (
            ("entry", ("zero", (), "both")), ("entry", ("zero", (), "none")), ("entry", ("nil", (), "nat")),
            ("entry", ("succ", (), "nat")), ("rule", 3), ("rule", -1), ("place", "succ", 1), ("place", "zero", 0),
            ("place", "nil", 0), ("place", "add", -1), ("place", "add", 2),
        ):
            with self.subTest(bad):
                self.assert_bad([("rule", 0), bad, ("rule", 9), ("rule", 0)], bad)

    def test_changes_that_were_passed_before(self):
        for change in (("entry", ENTRIES[2]), ("rule", 1), ("place", "add", 1), ("place", "pair", 1)):
            self.assert_bad([change, ("rule", 0), change, ("rule", 9)], change)

    def test_the_first_one_is_told(self):
        self.assert_bad([("rule", 9), ("rule", 0), ("rule", 0)], ("rule", 9))
        self.assert_bad([("rule", 0), ("rule", 0), ("rule", 9)], ("rule", 0))
        self.assert_bad([("rule", 9), ("rule", 8)], ("rule", 9))

    def test_without_rules(self):
        self.assert_bad([("rule", 0)], ("rule", 0), language([]))


class Repairs(unittest.TestCase):
    def test_a_sound_language(self):
        for most in (0, 1, 2, 3):
            self.assertEqual(repairs(language(), list(all_changes(language()))[:8], most=most), [((), ())])
        self.assertEqual(repairs(language(), []), [((), ())])

    def test_one_change(self):
        made = language(RULES + [BAD_RULE])
        least = judge(made).witness
        self.assertEqual(least, fst(pair(ZERO, ZERO)))
        self.assertEqual(repairs(made, [("rule", 0), ("rule", 3), ("entry", ("fst", ("both",), "num"))]), [
            ((("rule", 3),), (((), least),)), ((("entry", ("fst", ("both",), "num")),), (((), least),))])

    def test_none(self):
        made = language(RULES + [BAD_RULE])
        self.assertEqual(repairs(made, [("rule", 3)], most=0), [])
        self.assertEqual(repairs(made, [("rule", 0), ("rule", 1)]), [])
        self.assertEqual(repairs(made, []), [])

    def test_two_changes(self):
        made = broken()
        rule, entry, other = ("rule", 3), ("entry", BAD_ENTRY), ("rule", 4)
        against = (
            ((), fst(ZERO)), ((rule,), fst(ZERO)), ((entry,), fst(pair(ZERO, ZERO))))
        self.assertEqual(repairs(made, [rule, other, entry]), [((rule, entry), against)])
        # The changes stand in the order of the candidates, the smaller sets likewise.
        turned = (against[0], against[2], against[1])
        self.assertEqual(repairs(made, (entry, other, rule)), [((entry, rule), turned)])
        self.assertEqual(repairs(made, [rule, other, entry], most=1), [])
        self.assertEqual(repairs(made, [rule, other, entry], most=3), [((rule, entry), against)])

    def test_three_changes(self):
        entry = ("succ", ("both",), "both")
        made = language(RULES + [BAD_RULE], ENTRIES + [BAD_ENTRY, entry])
        changes = [("entry", BAD_ENTRY), ("rule", 3), ("entry", entry)]
        found = repairs(made, changes, most=3)
        self.assertEqual(len(found), 1)
        first, second, third = changes
        self.assertEqual(found[0][0], (first, second, third))
        self.assertEqual([smaller for smaller, _ in found[0][1]], [
            (), (first,), (second,), (third,), (first, second), (first, third), (second, third)])
        for smaller, witness in found[0][1]:
            self.assertEqual(witness, judge(changed(made, *smaller)).witness)
            self.assertIsNotNone(witness)
        self.assertEqual(repairs(made, changes), [])

    def test_listed_by_size_then_by_positions(self):
        made = broken()
        candidates = [("entry", BAD_ENTRY), ("entry", ("fst", ("both",), "num")), ("rule", 3), ("entry", ENTRIES[3])]
        found = [changes for changes, _ in repairs(made, candidates, most=3)]
        at = [tuple(candidates.index(change) for change in changes) for changes in found]
        self.assertEqual(at, [(0, 1), (0, 2), (0, 3)])
        candidates = candidates[1:] + candidates[:1] + [("entry", ENTRIES[0])]
        found = [changes for changes, _ in repairs(made, candidates, most=3)]
        at = [tuple(candidates.index(change) for change in changes) for changes in found]
        # Without zero there are no terms, and that one change is enough.
        self.assertEqual(at, [(4,), (0, 3), (1, 3), (2, 3)])

    def test_places(self):
        # As long as the part is not evaluated, it may be what no rule fits.
        symbols = [("end", 0, True, ()), ("go", 0, False, ()), ("take", 1, False, ())]
        book = Book(Signature(symbols), ["p"], entries=[("end", (), "p"), ("go", (), "p"), ("take", ("p",), "p")])
        made = Language(book, [(("take", ("end",)), ("end",)), (("go",), ("end",))])
        self.assertEqual(repairs(made, [("place", "take", 0), ("rule", 1)]), [
            ((("place", "take", 0),), (((), ("take", ("go",))),))])

    def test_places_of_a_set_are_put_in_the_order_of_the_candidates(self):
        symbols = [("end", 0, True, ()), ("go", 0, False, ()), ("two", 2, False, ())]
        entries = [("end", (), "p"), ("go", (), "p"), ("two", ("p", "p"), "p")]
        made = Language(Book(Signature(symbols), ["p"], entries=entries), [(("two", ("end",), ("end",)), ("end",)), (("go",), ("go",))])
        candidates = [("place", "two", 1), ("place", "two", 0)]
        (changes, against), = repairs(made, candidates)
        self.assertEqual(changes, tuple(candidates))
        self.assertEqual(order_of(changed(made, *changes), "two"), (1, 0))
        end, go = ("end",), ("go",)
        self.assertEqual(against, (((), ("two", end, go)), ((candidates[0],), ("two", go, end)), ((candidates[1],), ("two", end, go))))

    def test_more_changes_may_break_what_fewer_mend(self):
        # Of a set that is no repair, because a smaller one is, no larger one is listed either.
        made = language(RULES + [BAD_RULE])
        candidates = [("rule", 3), ("rule", 0), ("entry", ("fst", ("both",), "num"))]
        self.assertFalse(judge(changed(made, *candidates[:2])).sound)
        self.assertEqual([changes for changes, _ in repairs(made, candidates, most=3)], [(candidates[0],), (candidates[2],)])

    def test_lists_and_kinds_of_values(self):
        made = broken()
        candidates = [("rule", 3), ("entry", BAD_ENTRY)]
        found = repairs(made, candidates)
        again = repairs(made, tuple(candidates))
        self.assertEqual(candidates, [("rule", 3), ("entry", BAD_ENTRY)])
        self.assertIs(type(found), list)
        changes, against = found[0]
        self.assertEqual({type(found[0]), type(changes), type(against), type(against[0]), type(against[0][0])}, {tuple})
        found.clear()
        candidates.clear()
        self.assertEqual(repairs(made, [("rule", 3), ("entry", BAD_ENTRY)]), again)
        self.assertEqual(parts_of(made), parts_of(broken()))

    def test_against_all_sets(self):
        sizes = {0: 0, 1: 0, 2: 0, 3: 0}
        for seed in range(220):
            made = plain.chance_language(seed)
            # Without zero there are hardly any terms, so that striking it would mend too much.
            changes = [change for change in all_changes(made) if change[0] != "entry" or change[1][0] != "zero"]
            candidates = random.Random(seed).sample(changes, min(len(changes), 8))
            if not judge(made).sound:
                wanted = plain_repairs(made, candidates, 3)
                self.assertEqual(repairs(made, candidates, most=3), wanted)
                self.assertEqual(repairs(made, candidates), [repair for repair in wanted if len(repair[0]) < 3])
                self.assertEqual(repairs(made, candidates, most=0), [])
                for changes, _ in wanted:
                    sizes[len(changes)] += 1
        self.assertEqual(sizes[0], 0)
        self.assertGreater(min(sizes[1], sizes[2], sizes[3]), 3)


def plain_repairs(made, candidates, most):
    """The repairs by the words of point 18."""
    verdicts = {}
    for size in range(most + 1):
        for picked in itertools.combinations(range(len(candidates)), size):
            verdicts[picked] = judge(changed(made, *[candidates[at] for at in picked]))
    found = []
    for picked, verdict in verdicts.items():
        smaller = [other for other in verdicts if set(other) < set(picked)]
        if verdict.sound and not any(verdicts[other].sound for other in smaller):
            against = tuple((tuple(candidates[at] for at in other), verdicts[other].witness) for other in smaller)
            found.append((tuple(candidates[at] for at in picked), against))
    return found


class Harmless(unittest.TestCase):
    def test_entries_of_a_symbol(self):
        self.assertEqual(harmless(language(), "succ"), (("succ", ("nat",), "num"), ("succ", ("num",), "nat")))

    def test_a_constant(self):
        made = language()
        self.assertEqual(harmless(made, "zero"), (("zero", (), "num"),))
        self.assertEqual(judge(plus(made, ("zero", (), "both"))).stuck, fst(ZERO))

    def test_entries_that_are_in_the_book_are_left_out(self):
        for name in ("zero", "succ", "pair", "add", "fst"):
            self.assertEqual([entry for entry in harmless(language(), name) if entry in ENTRIES], [])

    def test_a_language_that_is_not_sound(self):
        # No entry of another symbol helps; one of pair gives the kind that is lost.
        made = language(RULES + [(("fst", ("pair", "x", "y")), ("pair", "x", "x"))])
        self.assertFalse(judge(made).sound)
        self.assertEqual(harmless(made, "succ"), ())
        self.assertEqual(harmless(language([]), "succ"), ())
        symbols = [("end", 0, True, ()), ("box", 1, True, ()), ("take", 1, False, ())]
        book = Book(Signature(symbols), ["p", "q"], entries=[("end", (), "p"), ("take", ("p",), "q")])
        made = Language(book, [(("take", "x"), ("box", "x"))])
        self.assertEqual(harmless(made, "box"), (("box", ("p",), "q"),))

    def test_canonical_order(self):
        made = language(entries=[])
        wanted = tuple(entry for entry in plain.every_entry(made.book, SYMBOLS) if entry[0] == "pair")
        self.assertEqual(harmless(made, "pair"), wanted)

    def test_three_places(self):
        symbols = [("end", 0, True, ()), ("tri", 3, False, (0, 1))]
        book = Book(Signature(symbols), ["p", "q"], entries=[("end", (), "p")])
        made = Language(book, [(("tri", "x", "y", "z"), "z")])
        wanted = tuple(entry for entry in plain.every_entry(book, symbols[1:]) if entry[1:] != (("p", "p", "p"), "q"))
        self.assertEqual(harmless(made, "tri"), wanted)

    def test_undeclared_names(self):
        for bad in ("nil", "nat", ""):
            with self.assertRaises(BadSymbol) as caught:
                harmless(language(), bad)
            self.assertEqual(caught.exception.symbol, bad)

    def test_what_is_passed_stays(self):
        made = language()
        harmless(made, "succ")
        self.assertEqual(parts_of(made), parts_of(language()))

    def test_against_all_entries(self):
        for seed in range(80):
            made = plain.chance_language(seed)
            for symbol in made.signature.symbols:
                every = [entry for entry in plain.every_entry(made.book, [symbol]) if entry not in made.book.entries]
                wanted = tuple(entry for entry in every if judge(plus(made, entry)).sound)
                self.assertEqual(harmless(made, symbol[0]), wanted)


def plus(made, entry):
    book = made.book
    return Language(Book(book.signature, book.kinds, under=book.under, entries=book.entries + (entry,)), made.rules)


class ManyChanges(unittest.TestCase):
    def test_eight_candidates(self):
        made = broken()
        candidates = all_changes(made)[-8:]
        self.assertEqual(repairs(made, candidates, most=3), plain_repairs(made, candidates, 3))
        self.assertEqual(add(ONE, ZERO) in made.book, True)


if __name__ == "__main__":
    unittest.main()

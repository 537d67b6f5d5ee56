"""Points 6 to 8: rules, values, the active place, steps and runs."""
import random
import unittest

from keptkinds.books import Book
from keptkinds.errors import BadRule, BadTerm, LostKind, Stuck
from keptkinds.languages import Language
from keptkinds.terms import Signature, terms
from tests.samples import (
    ENTRIES, KINDS, ONE, RULES, SYMBOLS, TWO, ZERO, add, book, fst, language, pair, signature, succ)

# A loop that grows by one symbol at each step, and one that doubles.
GROWING = [("zero", 0, True, ()), ("succ", 1, True, ()), ("twin", 2, True, ()), ("grow", 1, False, ()), ("dup", 1, False, ())]
GROWING_RULES = [
    (("grow", "x"), ("grow", ("succ", "x"))),
    (("dup", "x"), ("dup", ("twin", "x", "x"))),
]


def growing():
    entries = [("zero", (), "k"), ("succ", ("k",), "k"), ("twin", ("k", "k"), "k"), ("grow", ("k",), "k")]
    return Language(Book(Signature(GROWING), ["k"], entries=entries), GROWING_RULES)


def symbol(language, name):
    return [one for one in language.signature.symbols if one[0] == name][0]


def plain_is_value(language, term):
    _, _, done, order = symbol(language, term[0])
    return done and all(plain_is_value(language, term[1 + place]) for place in order)


def plain_active(language, term):
    """The active place by the words of point 7."""
    if plain_is_value(language, term):
        return None
    for place in symbol(language, term[0])[3]:
        if not plain_is_value(language, term[1 + place]):
            return (place,) + plain_active(language, term[1 + place])
    return ()


def plain_fill(right, bound):
    if isinstance(right, str):
        return bound[right]
    return (right[0],) + tuple(plain_fill(part, bound) for part in right[1:])


def plain_step(left, right, term):
    """The right side for a term that is its own active place, or None."""
    if left[0] != term[0]:
        return None
    bound = {}
    for shape, part in zip(left[1:], term[1:]):
        if isinstance(shape, str):
            bound[shape] = part
        elif shape[0] != part[0]:
            return None
        else:
            bound.update(zip(shape[1:], part[1:]))
    return plain_fill(right, bound)


def plain_replace(term, path, part):
    if not path:
        return part
    place = path[0]
    inner = plain_replace(term[1 + place], path[1:], part)
    return term[:1 + place] + (inner,) + term[2 + place:]


def plain_steps(language, term):
    path = plain_active(language, term)
    if path is None:
        return []
    part = term
    for place in path:
        part = part[1 + place]
    found = []
    for number, (left, right) in enumerate(language.rules):
        after = plain_step(left, right, part)
        if after is not None:
            found.append((number, plain_replace(term, path, after)))
    return found


class Rules(unittest.TestCase):
    def assert_bad(self, bad):
        with self.assertRaises(BadRule) as caught:
            language(RULES + [bad, ("x", "x")])
        self.assertEqual(caught.exception.rule, bad)

    def test_good_rules(self):
        for rule in (
            (("add", "x", "y"), "x"), (("add", "a", "abcdwxyz"), ("zero",)), (("add", ("zero",), ("zero",)), ("zero",)),
            (("add", ("pair", "a", "b"), ("pair", "c", "d")), ("pair", ("pair", "d", "c"), ("pair", "b", "a"))),
            (("add", ("add", "a", "b"), "c"), ("fst", "c")), (("fst", "zero"), ("succ", "zero")),
            (("fst", "x"), ("pair", "x", "x")), (("fst", "fst"), "fst"), (("fst", "nat"), "nat"),
        ):
            with self.subTest(rule):
                self.assertEqual(language([rule]).rules, (rule,))

    def test_rules_may_repeat(self):
        self.assertEqual(language(RULES * 2).rules, tuple(RULES * 2))

    def test_no_rules(self):
        self.assertEqual(language([]).rules, ())

    def test_no_error_for_other_numbers(self):
        rules = [(("fst", "x"), succ("x", 30))] * 9
        self.assertEqual(language(rules).rules, tuple(rules))

    def test_bad_left_sides(self):
        for left in (
            "x", (), ("nil",), ("succ", "x"), ("zero",), ("fst",), ("fst", "x", "y"), ("add", "x"), ("nat", "x"),
            ("add", "x", "x"), ("fst", ("pair", "x", "x")), ("add", ("succ", "x"), "x"), ("add", ("succ", "x"), ("succ", "x")),
            ("fst", ("nil",)), ("fst", ("succ",)), ("fst", ("zero", "x")), ("fst", ("pair", "x")),
            ("fst", ("succ", ("zero",))), ("fst", ("succ", ("succ", "x"))), ("fst", ()),
            ("fst", ""), ("fst", "abcdefghi"), ("fst", "X"), ("fst", "x1"), ("fst", ("succ", "X")), ("fst", ("succ", "")),
        ):
            with self.subTest(left):
                self.assert_bad((left, ("zero",)))

    def test_bad_right_sides(self):
        for right in (
            "z", "zero", "", (), ("nil",), ("succ",), ("succ", "x", "y"), ("succ", "z"), ("pair", "x", ("nil",)),
            ("succ", ("succ", ("succ", "z"))), ("zero", "x"), ("pair", "x"), ("succ", ()), ("x",),
        ):
            with self.subTest(right):
                self.assert_bad((("add", "x", ("succ", "y")), right))

    def test_patterns_are_one_symbol_deep(self):
        short = Signature([("a", 0, True, ()), ("b", 1, True, ()), ("c", 1, False, ())])
        for bad in ((("c", ("b", ("a",))), ("a",)), (("c", ("b", ("b", "x"))), "x")):
            with self.assertRaises(BadRule) as caught:
                Language(Book(short, ["k"]), [bad])
            self.assertEqual(caught.exception.rule, bad)

    def test_other_shapes(self):
        self.assert_bad((("fst", "x"),))
        self.assert_bad((("fst", "x"), "x", "x"))
        self.assert_bad(())

    def test_the_first_of_several_faults(self):
        first, second = (("fst", "x"), "y"), (("nil", "x"), "x")
        for rules in ([first, second], [RULES[0], first, second]):
            with self.assertRaises(BadRule) as caught:
                language(rules)
            self.assertEqual(caught.exception.rule, first)


class Copies(unittest.TestCase):
    def test_the_list_of_rules_may_be_changed_afterwards(self):
        rules = list(RULES)
        made = Language(book(), rules)
        self.assertEqual(rules, RULES)
        rules.clear()
        self.assertEqual(made.rules, tuple(RULES))
        self.assertEqual(Language(book(), tuple(RULES)).rules, tuple(RULES))

    def test_the_book_may_be_changed_afterwards(self):
        passed = book()
        made = Language(passed, RULES)
        passed["zero", ()] = []
        self.assertEqual(made.book.entries, book().entries)
        self.assertEqual(made.kept_step(add(ZERO, ZERO)), ZERO)
        self.assertEqual(passed["zero", ()], ())

    def test_the_book_that_is_returned_is_new(self):
        made = language()
        returned = made.book
        self.assertIsNot(returned, made.book)
        returned["zero", ()] = []
        self.assertEqual(made.book.entries, book().entries)
        self.assertEqual((made.book.kinds, made.book.under), (book().kinds, book().under))

    def test_lists_that_are_returned_are_new(self):
        made = language()
        term = add(ONE, ONE)
        made.steps(term).clear()
        made.run(term).clear()
        self.assertEqual(len(made.steps(term)), 1)
        self.assertEqual(len(made.run(term)), 3)

    def test_signature(self):
        self.assertEqual(language().signature.symbols, tuple(SYMBOLS))


class Values(unittest.TestCase):
    def test_values(self):
        made = language()
        for term, wanted in (
            (ZERO, True), (TWO, True), (add(ZERO, ZERO), False), (fst(ZERO), False), (succ(fst(ZERO)), False),
            (pair(ZERO, ZERO), True), (pair(ZERO, fst(ZERO)), True), (pair(fst(ZERO), ZERO), False),
            (pair(pair(ONE, fst(ONE)), fst(ONE)), True), (succ(pair(ZERO, fst(ZERO))), True),
        ):
            with self.subTest(term):
                self.assertIs(made.is_value(term), wanted)
                self.assertIs(made.active(term) is None, wanted)

    def test_working_symbols_without_places(self):
        made = Language(Book(Signature([("go", 0, False, ()), ("end", 0, True, ())]), ["k"]), [(("go",), ("end",))])
        self.assertEqual(made.active(("go",)), ())
        self.assertEqual(made.steps(("go",)), [(0, ("end",))])
        self.assertEqual(made.run(("go",)), [("go",), ("end",)])

    def test_active_places(self):
        made = language()
        for term, path in (
            (fst(ZERO), ()), (succ(fst(ZERO)), (0,)), (add(ZERO, ZERO), ()), (fst(pair(ZERO, fst(ZERO))), ()),
            (pair(fst(ZERO), fst(ZERO)), (0,)), (succ(succ(pair(fst(ONE), ZERO))), (0, 0, 0)),
            (add(pair(ZERO, fst(ZERO)), ONE), ()), (fst(fst(fst(ZERO))), (0, 0)),
        ):
            with self.subTest(term):
                self.assertEqual(made.active(term), path)

    def test_the_order_of_evaluation(self):
        made = language()
        self.assertEqual(made.active(add(fst(ZERO), fst(ZERO))), (1,))
        self.assertEqual(made.active(add(fst(ZERO), ZERO)), (0,))
        self.assertEqual(made.active(add(fst(ZERO), succ(add(fst(ZERO), ONE)))), (1, 0, 0))

    def test_places_that_are_not_evaluated(self):
        made = growing()
        self.assertEqual(made.active(("grow", ("grow", ("zero",)))), ())
        self.assertIsNone(made.active(("succ", ("grow", ("zero",)))))


class Steps(unittest.TestCase):
    def test_steps(self):
        made = language()
        self.assertEqual(made.steps(add(ZERO, TWO)), [(0, TWO)])
        self.assertEqual(made.steps(add(TWO, ONE)), [(1, succ(add(ONE, ONE)))])
        self.assertEqual(made.steps(fst(pair(ONE, fst(ZERO)))), [(2, ONE)])
        self.assertEqual(made.steps(ONE), [])
        self.assertEqual(made.steps(fst(ZERO)), [])

    def test_steps_happen_at_the_active_place(self):
        made = language()
        term = add(add(ZERO, ZERO), succ(add(ONE, ZERO)))
        self.assertEqual(made.steps(term), [(1, add(add(ZERO, ZERO), succ(succ(add(ZERO, ZERO)))))])
        self.assertEqual(made.steps(add(add(ZERO, ONE), ZERO)), [(0, add(ONE, ZERO))])

    def test_no_steps_elsewhere(self):
        # The active place is stuck, though the other part could step.
        self.assertEqual(language().steps(add(add(ZERO, ZERO), fst(ZERO))), [])

    def test_each_rule_that_fits(self):
        rules = [(("fst", ("pair", "x", "y")), "y"), (("fst", "x"), ("pair", "x", "x")), (("fst", ("succ", "x")), "x"),
                 (("fst", ("pair", "x", "y")), "y"), (("add", "x", "y"), "x")]
        made = language(rules)
        self.assertEqual(made.steps(fst(pair(ZERO, ONE))), [
            (0, ONE), (1, pair(pair(ZERO, ONE), pair(ZERO, ONE))), (3, ONE)])
        self.assertEqual(made.steps(succ(fst(ONE))), [(1, succ(pair(ONE, ONE))), (2, ONE)])

    def test_all_patterns_must_fit(self):
        made = language([(("add", ("zero",), ("succ", "x")), "x")])
        self.assertEqual(made.steps(add(ZERO, TWO)), [(0, ONE)])
        self.assertEqual(made.steps(add(ZERO, ZERO)), [])
        self.assertEqual(made.steps(add(ONE, ONE)), [])

    def test_patterns_of_working_symbols(self):
        made = Language(Book(Signature(GROWING), ["k"]), [(("grow", ("grow", "x")), "x")])
        self.assertEqual(made.steps(("grow", ("grow", ("zero",)))), [(0, ("zero",))])
        self.assertEqual(made.steps(("grow", ("zero",))), [])
        self.assertEqual(language([(("fst", ("fst", "x")), "x")]).steps(fst(fst(ZERO))), [])

    def test_variables_named_like_symbols(self):
        made = language([(("fst", ("pair", "zero", "succ")), ("pair", "succ", "zero"))])
        self.assertEqual(made.steps(fst(pair(ONE, TWO))), [(0, pair(TWO, ONE))])

    def test_against_the_words_of_the_document(self):
        rules = RULES + [(("add", "x", ("pair", "y", "z")), ("add", ("pair", "z", "x"), "y")), (("fst", "x"), "x")]
        for symbols in (SYMBOLS, [("zero", 0, True, ()), ("succ", 1, True, ()), ("pair", 2, True, (1, 0)),
                                  ("add", 2, False, (0,)), ("fst", 1, False, ())]):
            made = Language(Book(Signature(symbols), KINDS, entries=ENTRIES), rules)
            for size in range(6):
                for term in terms(made.signature, size):
                    self.assertEqual(made.active(term), plain_active(made, term))
                    self.assertIs(made.is_value(term), plain_is_value(made, term))
                    self.assertEqual(made.steps(term), plain_steps(made, term))


class KeptSteps(unittest.TestCase):
    def test_the_first_rule_that_fits(self):
        made = language(RULES + [(("add", "x", "y"), "x"), (("fst", "x"), ("zero",))])
        self.assertEqual(made.kept_step(add(ZERO, ONE)), ONE)
        self.assertEqual(made.kept_step(succ(add(ONE, ONE))), succ(succ(add(ZERO, ONE))))
        self.assertEqual(made.kept_step(fst(ZERO)), ZERO)

    def test_a_value(self):
        self.assertIsNone(language().kept_step(TWO))
        self.assertIsNone(language().kept_step(pair(pair(ZERO, ZERO), fst(ZERO))))

    def test_a_stuck_term(self):
        for term in (fst(ZERO), succ(fst(ONE)), add(ZERO, fst(ZERO))):
            with self.assertRaises(Stuck) as caught:
                language().kept_step(term)
            error = caught.exception
            self.assertEqual((error.term, error.count, error.why), (term, 0, None))
            self.assertIsNone(error.__cause__)

    def test_a_lost_kind(self):
        made = language([(("fst", ("pair", "x", "y")), ("pair", "y", "x"))])
        term = fst(pair(ZERO, ONE))
        with self.assertRaises(LostKind) as caught:
            made.kept_step(term)
        error = caught.exception
        self.assertEqual((error.before, error.after, error.kind), (term, pair(ONE, ZERO), "num"))

    def test_the_first_kind_lost(self):
        entries = [("zero", (), "nat"), ("succ", ("nat",), "both"), ("fst", ("nat",), "both"), ("fst", ("nat",), "nat")]
        made = language([(("fst", "x"), ("succ", "x"))], entries)
        with self.assertRaises(LostKind) as caught:
            made.kept_step(fst(ZERO))
        self.assertEqual(caught.exception.kind, "nat")
        made = language([(("fst", "x"), "x")], entries)
        with self.assertRaises(LostKind) as caught:
            made.kept_step(fst(ZERO))
        self.assertEqual(caught.exception.kind, "both")

    def test_only_the_first_rule_counts(self):
        made = language(RULES + [(("add", "x", "y"), ("pair", "x", "y"))])
        self.assertEqual(made.kept_step(add(ZERO, ZERO)), ZERO)

    def test_a_term_without_kinds_loses_none(self):
        self.assertEqual(language().kept_step(add(ZERO, pair(ZERO, ZERO))), pair(ZERO, ZERO))

    def test_kinds_are_lost_by_the_whole_term(self):
        # Inside the pair a nat becomes a num, which the whole does not show.
        entries = ENTRIES + [("fst", ("both",), "nat")]
        made = language([(("fst", ("pair", "x", "y")), ("add", "x", "y"))], entries)
        self.assertEqual(made.kept_step(pair(fst(pair(ZERO, ONE)), ZERO)), pair(add(ZERO, ONE), ZERO))
        with self.assertRaises(LostKind) as caught:
            made.kept_step(succ(fst(pair(ZERO, ONE))))
        self.assertEqual(caught.exception.kind, "nat")
        self.assertEqual(caught.exception.after, succ(add(ZERO, ONE)))

    def test_long_loops_of_steps(self):
        made = growing()
        term = ("grow", ("zero",))
        for _ in range(1100):
            term = made.kept_step(term)
        self.assertEqual(made.signature.size(term), 1102)
        self.assertEqual(made.active(term), ())
        # The growing part is evaluated here, so that the active place lies deep.
        deep = Language(Book(signature(), KINDS), [(("fst", "x"), ("succ", ("fst", "x")))])
        term = fst(ZERO)
        for _ in range(1100):
            term = deep.steps(term)[0][1]
        self.assertEqual(len(deep.active(term)), 1100)
        self.assertFalse(deep.is_value(term))


class Runs(unittest.TestCase):
    def test_to_a_value(self):
        self.assertEqual(language().run(add(ONE, ONE)), [add(ONE, ONE), succ(add(ZERO, ONE)), TWO])

    def test_a_value(self):
        self.assertEqual(language().run(TWO), [TWO])
        self.assertEqual(language().run(TWO, most=0), [TWO])

    def test_most(self):
        term = add(TWO, ONE)
        whole = language().run(term)
        self.assertEqual(len(whole), 4)
        for most in range(6):
            self.assertEqual(language().run(term, most=most), whole[:most + 1])

    def test_the_default_of_most(self):
        term = ("grow", ("zero",))
        self.assertEqual(len(growing().run(term)), 21)
        self.assertEqual(len(growing().run(term, most=30)), 31)
        self.assertEqual(growing().run(term), growing().run(term, most=20))

    def test_the_first_rule_that_fits(self):
        rules = [(("fst", ("succ", "x")), "x"), (("fst", "x"), ("pair", "x", "x")), (("fst", ("zero",)), ("zero",))]
        self.assertEqual(language(rules).run(fst(ONE)), [fst(ONE), ZERO])
        self.assertEqual(language(rules).run(fst(ZERO)), [fst(ZERO), pair(ZERO, ZERO)])

    def test_ends_before_a_term_of_more_than_100_symbols(self):
        made = growing()
        trail = made.run(("grow", succ(ZERO, 90)), most=30)
        self.assertEqual([made.signature.size(term) for term in trail], list(range(92, 101)))
        trail = made.run(("dup", ("twin", ZERO, ZERO)))
        self.assertEqual([made.signature.size(term) for term in trail], [4, 8, 16, 32, 64])

    def test_a_term_of_just_100_symbols_is_taken(self):
        made = growing()
        self.assertEqual(len(made.run(("grow", succ(ZERO, 97)))), 2)
        self.assertEqual(len(made.run(("grow", succ(ZERO, 98)))), 1)

    def test_the_first_term_whatever_its_size(self):
        made = growing()
        large = ("grow", succ(ZERO, 200))
        self.assertEqual(made.run(large), [large])
        self.assertEqual(made.run(succ(ZERO, 200)), [succ(ZERO, 200)])
        shrinking = language()
        term = fst(pair(ZERO, succ(ZERO, 300)))
        self.assertEqual(shrinking.run(term), [term, ZERO])

    def test_stuck_at_once(self):
        with self.assertRaises(Stuck) as caught:
            language().run(fst(ZERO))
        error = caught.exception
        self.assertEqual((error.term, error.count, error.why), (fst(ZERO), 0, None))
        self.assertIsNone(error.__cause__)

    def test_stuck_after_some_steps(self):
        with self.assertRaises(Stuck) as caught:
            language().run(fst(add(ONE, ZERO)))
        error = caught.exception
        self.assertEqual((error.term, error.count, error.why), (fst(ONE), 2, None))
        self.assertIsNone(error.__cause__)

    def test_stuck_after_just_most_steps(self):
        made = language()
        term = fst(add(ONE, ZERO))
        self.assertEqual(made.run(term, most=2), [term, fst(succ(add(ZERO, ZERO))), fst(ONE)])
        self.assertEqual(made.run(fst(ZERO), most=0), [fst(ZERO)])
        with self.assertRaises(Stuck):
            made.run(term, most=3)

    def test_why(self):
        # The pair that takes the place of fst is nothing that add has a rule for.
        made = language([(("fst", ("pair", "x", "y")), ("pair", "x", "y"))] + RULES[:2])
        start = add(fst(pair(ZERO, ZERO)), add(ZERO, ONE))
        between = add(fst(pair(ZERO, ZERO)), ONE)
        last = add(pair(ZERO, ZERO), ONE)
        with self.assertRaises(Stuck) as caught:
            made.run(start)
        error = caught.exception
        self.assertEqual((error.term, error.count, error.why), (last, 2, (between, last, "num")))
        cause = error.__cause__
        self.assertIs(type(cause), LostKind)
        self.assertEqual((cause.before, cause.after, cause.kind), (between, last, "num"))

    def test_why_tells_the_first_step_and_the_first_kind(self):
        entries = [("zero", (), "nat"), ("succ", ("nat",), "num"), ("succ", ("num",), "both"),
                   ("fst", ("both",), "nat"), ("fst", ("both",), "num"), ("fst", ("both",), "both"), ("fst", ("num",), "nat")]
        unrelated = Book(signature(), KINDS, entries=entries)
        made = Language(unrelated, [(("fst", ("succ", "x")), ("fst", "x"))])
        kinds = [unrelated.kinds_of(fst(term)) for term in (TWO, ONE, ZERO)]
        self.assertEqual(kinds, [("nat", "num", "both"), ("nat",), ()])
        with self.assertRaises(Stuck) as caught:
            made.run(fst(TWO))
        error = caught.exception
        self.assertEqual((error.term, error.count, error.why), (fst(ZERO), 2, (fst(TWO), fst(ONE), "num")))
        cause = error.__cause__
        self.assertIs(type(cause), LostKind)
        self.assertEqual((cause.before, cause.after, cause.kind), (fst(TWO), fst(ONE), "num"))

    def test_lost_kinds_do_not_end_a_run(self):
        made = language([(("fst", ("pair", "x", "y")), ("pair", "x", "y"))])
        start = fst(pair(ZERO, ZERO))
        self.assertEqual(made.run(start), [start, pair(ZERO, ZERO)])

    def test_no_error_for_other_numbers(self):
        self.assertEqual(language().run(add(ONE, ONE), most=-1), [add(ONE, ONE)])
        self.assertEqual(len(growing().run(("grow", ("zero",)), most=50)), 51)


class BadTerms(unittest.TestCase):
    def test_every_door(self):
        made = language()
        for term, part in (
            (succ(("nil",)), ("nil",)), (("add", ZERO), ("add", ZERO)), (pair(("succ",), ("nil",)), ("succ",)), ((), ()),
        ):
            for door in (made.active, made.is_value, made.steps, made.kept_step, made.run,
                         lambda wrong: made.run(wrong, most=0)):
                with self.assertRaises(BadTerm) as caught:
                    door(term)
                self.assertEqual(caught.exception.term, part)


class Chance(unittest.TestCase):
    def test_runs_follow_first_steps(self):
        made = language(RULES + [(("fst", "x"), "x")])
        some = [term for size in range(6) for term in terms(made.signature, size)]
        for term in random.Random(1).sample(some, 100):
            trail = [term]
            while plain_steps(made, trail[-1]):
                trail.append(plain_steps(made, trail[-1])[0][1])
            if plain_is_value(made, trail[-1]):
                self.assertEqual(made.run(term, most=30), trail)
            else:
                with self.assertRaises(Stuck) as caught:
                    made.run(term, most=30)
                self.assertEqual(caught.exception.term, trail[-1])
                self.assertEqual(caught.exception.count, len(trail) - 1)


if __name__ == "__main__":
    unittest.main()

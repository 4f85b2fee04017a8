"""[c5], [i1] and [i3]: what keeps implications, what follows from them, derivations and bases."""

import unittest
from itertools import combinations, product

from formalconcepts.implications import broken_by, closed_under, derivation, is_base, is_derivation, keeps
from formalconcepts.stem import direct, stem
from tests.plain import all_closed, closure_of, follows, has_kept, is_plain_base, is_right, keepers
from tests.samples import (
    ALL_HAVE_ALL, EDGES, EXAMPLE, IMPLIED, LARGE, NEITHER, NO_MARKS, NO_THINGS, NONE_HAS_ANY, implications_below,
    sets_below, tables_up_to,
)
from tests.shapes import ShapeCase

SMALL = tables_up_to(3, 3)
ROUND = (((0,), (1,)), ((1,), (2,)), ((1, 2), (3,)))

# Values that are no tuples of numbers.
NO_NUMBERS = (
    None, True, False, 0, 1, -1, 2.0, "", "0", "01", b"", b"\x00", [], [0], [0, 1], {}, {0: 0}, set(), {0}, frozenset(),
    range(0), range(2), object(), tuple, (None,), (True,), (False,), (0, True), (False, 1), (0.0,), (0, 1.0), ("0",),
    (b"0",), ((),), ((0,),), ([0],), (0, None), (0, 1, []), ("derivation", (0, 1)),
)


class KeepsTest(unittest.TestCase):
    """[c5]: a set keeps an implication"""

    def test_ordinary_sets(self):
        self.assertIs(keeps((0, 1), ((0,), (1,))), True)
        self.assertIs(keeps((0, 2), ((0,), (1,))), False)
        self.assertIs(keeps((1, 2), ((0,), (1,))), True)
        self.assertIs(keeps((2,), ((0, 2), (1,))), True)
        self.assertIs(keeps((0, 1, 2), ((0,), (1, 2, 3))), False)

    def test_an_empty_premise(self):
        self.assertIs(keeps((), ((), (0,))), False)
        self.assertIs(keeps((1,), ((), (0,))), False)
        self.assertIs(keeps((0, 1), ((), (0,))), True)

    def test_an_empty_conclusion(self):
        for marks in sets_below(3):
            self.assertIs(keeps(marks, ((0,), ())), True)
            self.assertIs(keeps(marks, ((), ())), True)

    def test_the_conclusion_within_the_premise(self):
        for marks in sets_below(3):
            self.assertIs(keeps(marks, ((0, 1), (1,))), True)
            self.assertIs(keeps(marks, ((0, 1), (0, 1))), True)

    def test_all_sets_and_implications(self):
        for marks in sets_below(3):
            for implication in implications_below(3):
                self.assertIs(keeps(marks, implication), has_kept(marks, implication))


class BrokenByTest(unittest.TestCase):
    """[c5]: the least thing that does not keep an implication"""

    def test_ordinary_tables(self):
        self.assertEqual(broken_by(EXAMPLE, ((0,), (1,))), 1)
        self.assertEqual(broken_by(EXAMPLE, ((1,), (0,))), 2)
        self.assertEqual(broken_by(EXAMPLE, ((), (1,))), 1)
        self.assertIsNone(broken_by(EXAMPLE, ((2,), (0,))))
        self.assertIsNone(broken_by(EXAMPLE, ((1, 2), (0,))))

    def test_the_least_of_several(self):
        self.assertEqual(broken_by(EXAMPLE, ((), (2,))), 0)
        self.assertEqual(broken_by(("table", 2, ((1,), (0, 1), (0,), (0,))), ((0,), (1,))), 2)

    def test_without_things_or_marks(self):
        for implication in implications_below(3):
            self.assertIsNone(broken_by(NO_THINGS, implication))
        self.assertIsNone(broken_by(NO_MARKS, ((), ())))
        self.assertIsNone(broken_by(NEITHER, ((), ())))

    def test_all_have_all_or_none_has_any(self):
        self.assertIsNone(broken_by(ALL_HAVE_ALL, ((), (0, 1, 2))))
        self.assertEqual(broken_by(NONE_HAS_ANY, ((), (0,))), 0)
        self.assertIsNone(broken_by(NONE_HAS_ANY, ((0,), (1, 2))))

    def test_all_implications_of_small_tables(self):
        for table in SMALL:
            for implication in implications_below(table[1]):
                breakers = [thing for thing, row in enumerate(table[2]) if not has_kept(row, implication)]
                found = broken_by(table, implication)
                self.assertEqual(found, breakers[0] if breakers else None)
                self.assertIn(type(found), (int, type(None)))


class ClosedUnderTest(ShapeCase):
    """[c5]: the least set that has the marks and keeps the implications"""

    def test_no_implications(self):
        for marks in sets_below(4):
            self.assertEqual(closed_under((), marks), marks)

    def test_one_leads_to_the_next(self):
        self.assertEqual(closed_under(ROUND, (0,)), (0, 1, 2, 3))
        self.assertEqual(closed_under(ROUND[::-1], (0,)), (0, 1, 2, 3))
        self.assertEqual(closed_under(ROUND, (2,)), (2,))
        self.assertEqual(closed_under(ROUND, (1,)), (1, 2, 3))

    def test_an_empty_premise(self):
        self.assertEqual(closed_under((((), (1,)), ((1,), (0,))), ()), (0, 1))
        self.assertEqual(closed_under((((), (1,)),), (2,)), (1, 2))

    def test_what_adds_nothing(self):
        for adds in (((), ()), ((0,), ()), ((0, 1), (0,)), ((0, 1), (0, 1))):
            self.assertEqual(closed_under((adds, adds), (0, 1)), (0, 1))

    def test_the_same_implication_twice(self):
        self.assertEqual(closed_under((((0,), (1,)),) * 2, (0,)), (0, 1))

    def test_a_plain_search_finds_the_same(self):
        for implications in [*IMPLIED, *combinations(implications_below(2), 2)]:
            kept = keepers(implications, 5)
            for marks in sets_below(5):
                found = closed_under(implications, marks)
                self.assert_set(found, 5)
                higher = [set(other) for other in kept if set(marks) <= set(other)]
                self.assertEqual(set(found), set.intersection(*higher))
                self.assertIn(found, kept)


class DerivationTest(ShapeCase):
    """[i1]: a right one exactly if the implication follows"""

    def assert_right(self, implications, implication, many):
        found = derivation(implications, implication)
        if not follows(implications, implication, many):
            self.assertIsNone(found)
            return
        self.assertIs(type(found), tuple)
        for number in found:
            self.assert_number(number, len(implications))
        self.assertTrue(is_right(implications, implication, found))
        self.assertIs(is_derivation(implications, implication, found), True)

    def test_no_implications(self):
        self.assertEqual(derivation((), ((0, 1), (1,))), ())
        self.assertEqual(derivation((), ((), ())), ())
        self.assertIsNone(derivation((), ((0,), (1,))))
        self.assertIsNone(derivation((), ((), (0,))))

    def test_one_leads_to_the_next(self):
        self.assertEqual(derivation(ROUND, ((0,), (3,))), (0, 1, 2))
        self.assertEqual(derivation(ROUND[::-1], ((0,), (3,))), (2, 1, 0))
        self.assertIsNone(derivation(ROUND, ((2,), (3,))))

    def test_part_of_the_conclusion_does_not_follow(self):
        self.assertIsNone(derivation(ROUND, ((1,), (0, 2))))

    def test_all_small_implications(self):
        for implications in [*combinations(implications_below(2), 2), *product(implications_below(1), repeat=3)]:
            for implication in implications_below(2):
                self.assert_right(implications, implication, 2)

    def test_longer_ones(self):
        for implications in IMPLIED:
            for premise in sets_below(5):
                for conclusion in ((), (0,), (1,), (2,), (3,), (4,), (0, 4), (1, 2, 3), (0, 1, 2, 3, 4)):
                    self.assert_right(implications, (premise, conclusion), 5)


class IsDerivationTest(unittest.TestCase):
    """[i1]: just the right ones"""

    def test_right_ones(self):
        for numbers in ((0, 1, 2), (0, 0, 1, 2), (0, 1, 0, 1, 2, 2, 0)):
            self.assertIs(is_derivation(ROUND, ((0,), (3,)), numbers), True)

    def test_more_than_is_asked_for(self):
        self.assertIs(is_derivation(ROUND, ((0,), (1,)), (0, 1, 2)), True)
        self.assertIs(is_derivation(ROUND, ((0, 1), (1,)), (0,)), True)

    def test_a_step_is_left_out(self):
        for numbers in ((), (0,), (0, 1), (1, 2), (0, 2), (2,)):
            self.assertIs(is_derivation(ROUND, ((0,), (3,)), numbers), False)

    def test_another_order(self):
        for numbers in ((0, 2, 1), (1, 0, 2), (1, 2, 0), (2, 0, 1), (2, 1, 0), (1, 0, 1, 2)):
            self.assertIs(is_derivation(ROUND, ((0,), (3,)), numbers), False)

    def test_a_step_that_is_not_reached_though_the_end_is(self):
        self.assertIs(is_derivation(ROUND, ((0,), (1,)), (0, 2)), False)
        self.assertIs(is_derivation(ROUND, ((0,), (0,)), (1,)), False)

    def test_no_numbers(self):
        self.assertIs(is_derivation(ROUND, ((0, 1), (0,)), ()), True)
        self.assertIs(is_derivation((), ((0,), ()), ()), True)
        self.assertIs(is_derivation((), ((), (0,)), ()), False)

    def test_numbers_beyond_the_implications_or_below_0(self):
        for number in (3, 4, 10 ** 30, -1, -2, -3, -4, -10 ** 30):
            self.assertIs(is_derivation(ROUND, ((0,), (0,)), (number,)), False)
            self.assertIs(is_derivation(ROUND, ((0,), (3,)), (0, 1, 2, number)), False)
        # Counted from the end, as Python does it, it would be right.
        self.assertIs(is_derivation(ROUND, ((0,), (3,)), (-3, -2, -1)), False)
        self.assertIs(is_derivation((), ((0,), (0,)), (0,)), False)

    def test_whatever_else(self):
        # All of these premises are there: only the kind is wrong.
        implications = (((), (0,)), ((), (1,)), ((), (2,)))
        self.assertIs(is_derivation(implications, ((), ()), (0, 1)), True)
        for value in NO_NUMBERS:
            self.assertIs(is_derivation(implications, ((), ()), value), False, value)
            self.assertIs(is_derivation((), ((), ()), value), False, value)

    def test_lists_and_bools_in_the_place_of_right_ones(self):
        for value in ([0, 1, 2], (False, True, 2), (0, True, 2), (0.0, 1, 2), {0: 0, 1: 1, 2: 2}, "012", range(3)):
            self.assertIs(is_derivation(ROUND, ((0,), (3,)), value), False)

    def test_all_short_tuples(self):
        implications = (((0,), (1,)), ((), (2,)), ((1, 2), (0,)))
        tuples = [numbers for size in range(4) for numbers in product(range(-1, 4), repeat=size)]
        for implication in implications_below(3)[::3]:
            for numbers in tuples:
                right = all(number in range(3) for number in numbers) and is_right(implications, implication, numbers)
                self.assertIs(is_derivation(implications, implication, numbers), right)


class IsBaseTest(unittest.TestCase):
    """[i3]"""

    def assert_base(self, table, implications):
        self.assertIs(is_base(table, implications), True, (table, implications))

    def assert_no_base(self, table, implications):
        self.assertIs(is_base(table, implications), False, (table, implications))

    def test_the_example(self):
        self.assert_base(EXAMPLE, (((2,), (0,)),))
        self.assert_base(EXAMPLE, (((2,), (0, 2)), ((2,), (0,)), ((1, 2), (0,)), ((0,), ()), ((), ())))
        self.assert_no_base(EXAMPLE, ())
        self.assert_no_base(EXAMPLE, (((1, 2), (0,)),))
        self.assert_no_base(EXAMPLE, (((2,), (0,)), ((0,), (1,))))
        self.assert_no_base(EXAMPLE, (((2,), (0, 1)),))

    def test_without_things_or_marks(self):
        self.assert_base(NO_THINGS, (((), (0, 1, 2)),))
        self.assert_base(NO_THINGS, (((), (2,)), ((2,), (1,)), ((1,), (0,))))
        self.assert_no_base(NO_THINGS, (((), (0, 1)),))
        self.assert_no_base(NO_THINGS, ())
        for table in (NO_MARKS, NEITHER):
            self.assert_base(table, ())
            self.assert_base(table, (((), ()),))

    def test_all_have_all_or_none_has_any(self):
        self.assert_base(ALL_HAVE_ALL, (((), (0, 1, 2)),))
        self.assert_base(NONE_HAS_ANY, (((0,), (1,)), ((1,), (2,)), ((2,), (0,))))
        self.assert_no_base(NONE_HAS_ANY, (((0,), (1,)), ((1,), (2,))))
        self.assert_no_base(NONE_HAS_ANY, (((), (0, 1, 2)),))

    def test_all_pairs_of_implications_and_small_tables(self):
        every = implications_below(2)
        tuples = [(), *[(implication,) for implication in every], *product(every, repeat=2)]
        for table in tables_up_to(2, 2):
            if table[1] == 2:
                for implications in tuples:
                    self.assertIs(is_base(table, implications), is_plain_base(table, implications))

    def test_bases_with_a_change(self):
        for table in [*SMALL[::5], *EDGES]:
            everything = tuple(range(table[1]))
            for base in (stem(table), direct(table)):
                self.assert_base(table, base)
                self.assert_base(table, base[::-1])
                self.assert_base(table, base + base[:1])
                self.assert_base(table, base + (((), closure_of(table, ())), (everything, ())))
                for number, (premise, conclusion) in enumerate(base):
                    rest = (base[:number], base[number + 1:])
                    changes = [
                        rest[0] + rest[1],
                        (*rest[0], (premise, conclusion[1:]), *rest[1]),
                        (*rest[0], (premise, closure_of(table, premise)), *rest[1]),
                        (*rest[0], (premise, everything), *rest[1]),
                        (*base, ((), conclusion)),
                    ]
                    for implications in changes:
                        self.assertIs(is_base(table, implications), sound_and_whole(table, implications))

    def test_large_tables(self):
        for table in LARGE:
            base = stem(table)
            self.assert_base(table, base)
            self.assert_base(table, direct(table))
            for number, (premise, conclusion) in enumerate(base):
                # The stem base has none too many, and each conclusion is needed whole.
                self.assert_no_base(table, base[:number] + base[number + 1:])
                if len(conclusion) > 1:
                    less = (premise, conclusion[1:])
                    implications = (*base[:number], less, *base[number + 1:])
                    self.assertIs(is_base(table, implications), sound_and_whole(table, implications))


def sound_and_whole(table, implications):
    """Tell whether a table keeps some implications, and all sets that keep them are closed."""
    sound = all(has_kept(row, implication) for row in table[2] for implication in implications)
    return sound and set(keepers(implications, table[1])) == set(all_closed(table))


if __name__ == "__main__":
    unittest.main()

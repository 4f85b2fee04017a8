"""[c4] and [n1]: lectic order, and the closed sets of marks in it."""

import unittest

from formalconcepts.lectic import all_sets, closed_sets, is_less, next_closed
from formalconcepts.tables import closure
from tests.plain import all_closed, lectic_place
from tests.samples import (
    ALL_CLOSED, ALL_HAVE_ALL, EDGES, EXAMPLE, GREATEST, LARGE, NEITHER, NO_MARKS, NO_THINGS, NONE_HAS_ANY, sets_below,
    tables_up_to,
)
from tests.shapes import ShapeCase

SMALL = tables_up_to(3, 3)


class IsLessTest(unittest.TestCase):
    """[c4]"""

    def test_by_the_least_mark_that_stands_in_just_one(self):
        self.assertIs(is_less((1,), (0,)), True)
        self.assertIs(is_less((0,), (1,)), False)
        self.assertIs(is_less((1, 2, 3), (0,)), True)
        self.assertIs(is_less((0,), (1, 2, 3)), False)
        self.assertIs(is_less((0, 2), (0, 1)), True)
        self.assertIs(is_less((0, 1), (0, 2)), False)
        self.assertIs(is_less((0, 3), (0, 1, 2)), True)
        self.assertIs(is_less((1, 4), (1, 3)), True)

    def test_one_is_a_part_of_the_other(self):
        self.assertIs(is_less((), (6,)), True)
        self.assertIs(is_less((6,), ()), False)
        self.assertIs(is_less((0,), (0, 1)), True)
        self.assertIs(is_less((0, 1), (0,)), False)
        self.assertIs(is_less((1,), (0, 1)), True)
        self.assertIs(is_less((0, 1), (1,)), False)

    def test_no_set_is_less_than_itself(self):
        for marks in sets_below(7):
            self.assertIs(is_less(marks, marks), False)

    def test_marks_of_two_digits(self):
        self.assertIs(is_less((10,), (9,)), True)
        self.assertIs(is_less((9,), (10,)), False)
        self.assertIs(is_less((2,), (10,)), False)

    def test_all_pairs(self):
        for marks in sets_below(6):
            for other in sets_below(6):
                apart = set(marks) ^ set(other)
                self.assertIs(is_less(marks, other), bool(apart) and min(apart) in other)


class AllSetsTest(unittest.TestCase):
    """[c4]: all sets in lectic order"""

    def test_few_marks(self):
        self.assertEqual(all_sets(0), [()])
        self.assertEqual(all_sets(1), [(), (0,)])
        self.assertEqual(all_sets(2), [(), (1,), (0,), (0, 1)])

    def test_all_of_them_in_order(self):
        for many in range(8):
            self.assertEqual(all_sets(many), sorted(sets_below(many), key=lambda marks: lectic_place(marks, many)))


class ClosedSetsTest(ShapeCase):
    """[n1]"""

    def test_the_example(self):
        self.assertEqual(closed_sets(EXAMPLE), ((), (1,), (0,), (0, 2), (0, 1), (0, 1, 2)))

    def test_without_things_or_marks(self):
        self.assertEqual(closed_sets(NO_THINGS), ((0, 1, 2),))
        self.assertEqual(closed_sets(NO_MARKS), ((),))
        self.assertEqual(closed_sets(NEITHER), ((),))

    def test_all_have_all_or_none_has_any(self):
        self.assertEqual(closed_sets(ALL_HAVE_ALL), ((0, 1, 2),))
        self.assertEqual(closed_sets(NONE_HAS_ANY), ((), (0, 1, 2)))
        self.assertEqual(closed_sets(("table", 1, ((),))), ((), (0,)))

    def test_a_mark_that_all_things_have(self):
        self.assertEqual(closed_sets(("table", 3, ((1,), (1, 2)))), ((1,), (1, 2), (0, 1, 2)))

    def test_a_row_twice(self):
        self.assertEqual(closed_sets(("table", 2, ((1,), (1,), (0,)))), ((), (1,), (0,), (0, 1)))

    def test_each_set_is_closed(self):
        self.assertEqual(
            closed_sets(ALL_CLOSED), tuple(sorted(sets_below(7), key=lambda marks: lectic_place(marks, 7))),
        )

    def test_a_plain_search_finds_the_same(self):
        for table in [*SMALL, *EDGES, *LARGE]:
            found = closed_sets(table)
            self.assert_sets(found, table[1])
            self.assertEqual(found, all_closed(table))

    def test_the_first_and_the_last_one(self):
        for table in [*SMALL, *EDGES, *LARGE]:
            found = closed_sets(table)
            self.assertEqual(found[0], closure(table, ()))
            self.assertEqual(found[-1], tuple(range(table[1])))

    def test_beyond_the_bounds(self):
        rows = tuple(tuple(mark for mark in range(9) if (mark * thing + mark) & 3 != 1) for thing in range(12))
        table = ("table", 9, rows)
        self.assertEqual(closed_sets(table), all_closed(table))


class NextClosedTest(ShapeCase):
    """next_closed: the least closed set that is greater than any set"""

    def assert_each_next(self, table):
        many = table[1]
        closed = all_closed(table)
        for marks in sets_below(many):
            place = lectic_place(marks, many)
            later = [other for other in closed if lectic_place(other, many) > place]
            found = next_closed(table, marks)
            self.assertEqual(found, later[0] if later else None)
            if later:
                self.assert_set(found, many)

    def test_behind_closed_sets(self):
        self.assertEqual(next_closed(EXAMPLE, ()), (1,))
        self.assertEqual(next_closed(EXAMPLE, (1,)), (0,))
        self.assertEqual(next_closed(EXAMPLE, (0,)), (0, 2))
        self.assertEqual(next_closed(EXAMPLE, (0, 2)), (0, 1))
        self.assertEqual(next_closed(EXAMPLE, (0, 1)), (0, 1, 2))

    def test_behind_sets_that_are_not_closed(self):
        self.assertEqual(next_closed(EXAMPLE, (2,)), (1,))
        self.assertEqual(next_closed(EXAMPLE, (1, 2)), (0,))

    def test_none_behind_the_last_one(self):
        for table in [*SMALL, *EDGES, *LARGE]:
            self.assertIsNone(next_closed(table, tuple(range(table[1]))))

    def test_behind_no_marks(self):
        self.assertEqual(next_closed(NO_THINGS, ()), (0, 1, 2))
        self.assertEqual(next_closed(ALL_HAVE_ALL, ()), (0, 1, 2))
        self.assertEqual(next_closed(NONE_HAS_ANY, ()), (0, 1, 2))
        self.assertIsNone(next_closed(NO_MARKS, ()))
        self.assertIsNone(next_closed(NEITHER, ()))

    def test_behind_any_set_of_any_small_table(self):
        for table in [*SMALL, *EDGES]:
            self.assert_each_next(table)

    def test_behind_any_set_of_large_tables(self):
        for table in LARGE:
            self.assert_each_next(table)

    def test_from_the_first_one_on_all_closed_sets_are_found(self):
        for table in [*SMALL, *EDGES, *LARGE]:
            found = [closure(table, ())]
            while (following := next_closed(table, found[-1])) is not None:
                found.append(following)
            self.assertEqual(tuple(found), closed_sets(table))

    def test_the_greatest_table_has_what_it_has_in_lectic_order(self):
        found = closed_sets(GREATEST)
        for marks, other in zip(found, found[1:]):
            self.assertIs(is_less(marks, other), True)
            self.assertEqual(next_closed(GREATEST, marks), other)


if __name__ == "__main__":
    unittest.main()

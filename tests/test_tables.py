"""[c1], [c2] and [c7]: tables, what is common, what has marks, closures, and their bounds."""

import unittest

from formalconcepts.tables import closure, common, having, turned
from formalconcepts.texts import read, write
from tests.plain import common_of, having_of
from tests.samples import EXAMPLE, GREATEST, NEITHER, NO_MARKS, NO_THINGS, sets_below, tables_up_to

SMALL = tables_up_to(3, 3)


class SetTest(unittest.TestCase):
    """What a set of things or marks gives is a rising tuple of whole numbers."""

    def assert_set(self, some):
        self.assertIs(type(some), tuple)
        self.assertTrue(all(type(number) is int for number in some))
        self.assertEqual(some, tuple(sorted(set(some))))

    def test_all_are_sets(self):
        for table in SMALL:
            for things in sets_below(len(table[2])):
                self.assert_set(common(table, things))
            for marks in sets_below(table[1]):
                self.assert_set(having(table, marks))
                self.assert_set(closure(table, marks))


class CommonTest(unittest.TestCase):
    """[c2], common"""

    def test_the_example(self):
        self.assertEqual(common(EXAMPLE, (0, 1)), (0,))
        self.assertEqual(common(EXAMPLE, (0, 2)), (1,))
        self.assertEqual(common(EXAMPLE, (1, 2)), ())
        self.assertEqual(common(EXAMPLE, (0, 1, 2)), ())
        self.assertEqual(common(EXAMPLE, (1,)), (0, 2))

    def test_no_things_have_all_marks_in_common(self):
        self.assertEqual(common(EXAMPLE, ()), (0, 1, 2))
        self.assertEqual(common(NO_THINGS, ()), (0, 1, 2))
        self.assertEqual(common(NEITHER, ()), ())

    def test_a_table_without_marks(self):
        for things in ((), (0,), (1,), (0, 1)):
            self.assertEqual(common(NO_MARKS, things), ())

    def test_all_small_tables(self):
        for table in SMALL:
            for things in sets_below(len(table[2])):
                self.assertEqual(common(table, things), common_of(table, things))


class HavingTest(unittest.TestCase):
    """[c2], having"""

    def test_the_example(self):
        self.assertEqual(having(EXAMPLE, (0,)), (0, 1))
        self.assertEqual(having(EXAMPLE, (1,)), (0, 2))
        self.assertEqual(having(EXAMPLE, (0, 1)), (0,))
        self.assertEqual(having(EXAMPLE, (1, 2)), ())

    def test_all_things_have_no_marks(self):
        self.assertEqual(having(EXAMPLE, ()), (0, 1, 2))
        self.assertEqual(having(NO_MARKS, ()), (0, 1))
        self.assertEqual(having(NEITHER, ()), ())

    def test_a_table_without_things(self):
        for marks in sets_below(3):
            self.assertEqual(having(NO_THINGS, marks), ())

    def test_all_small_tables(self):
        for table in SMALL:
            for marks in sets_below(table[1]):
                self.assertEqual(having(table, marks), having_of(table, marks))


class ClosureTest(unittest.TestCase):
    """[c2], closure"""

    def test_the_example(self):
        self.assertEqual(closure(EXAMPLE, (2,)), (0, 2))
        self.assertEqual(closure(EXAMPLE, (0,)), (0,))
        self.assertEqual(closure(EXAMPLE, ()), ())
        self.assertEqual(closure(EXAMPLE, (1, 2)), (0, 1, 2))

    def test_the_closure_of_no_marks_is_what_all_things_have(self):
        self.assertEqual(closure(("table", 3, ((0, 2), (1, 2))), ()), (2,))

    def test_a_table_without_things_has_one_closed_set(self):
        for marks in sets_below(3):
            self.assertEqual(closure(NO_THINGS, marks), (0, 1, 2))

    def test_a_table_without_marks(self):
        self.assertEqual(closure(NO_MARKS, ()), ())
        self.assertEqual(closure(NEITHER, ()), ())

    def test_all_small_tables(self):
        for table in SMALL:
            for marks in sets_below(table[1]):
                self.assertEqual(closure(table, marks), common_of(table, having_of(table, marks)))

    def test_a_closure_is_the_least_closed_set_with_the_marks(self):
        for table in SMALL:
            closed = [marks for marks in sets_below(table[1]) if closure(table, marks) == marks]
            for marks in sets_below(table[1]):
                found = closure(table, marks)
                self.assertIn(found, closed)
                for other in closed:
                    if set(marks) <= set(other):
                        self.assertTrue(set(found) <= set(other))

    def test_the_closure_of_things_is_that_of_the_marks_of_the_turned_table(self):
        for table in SMALL:
            for things in sets_below(len(table[2])):
                self.assertEqual(closure(turned(table), things), having_of(table, common_of(table, things)))


class TurnedTest(unittest.TestCase):
    """The turned table, and the shape of [c1]"""

    def test_the_example(self):
        self.assertEqual(turned(EXAMPLE), ("table", 3, ((0, 1), (0, 2), (1,))))
        self.assertEqual(turned(("table", 3, ((0, 1), (0,)))), ("table", 2, ((0, 1), (0,), ())))
        self.assertEqual(turned(("table", 1, ((), (), (0,)))), ("table", 3, ((2,),)))

    def test_without_things_or_marks(self):
        self.assertEqual(turned(NO_THINGS), ("table", 0, ((), (), ())))
        self.assertEqual(turned(NO_MARKS), ("table", 2, ()))
        self.assertEqual(turned(NEITHER), NEITHER)

    def test_its_shape(self):
        for table in SMALL:
            found = turned(table)
            self.assertIs(type(found), tuple)
            self.assertIs(type(found[1]), int)
            self.assertIs(type(found[2]), tuple)
            self.assertEqual(found[0], "table")
            for row in found[2]:
                self.assertIs(type(row), tuple)
                self.assertEqual(row, tuple(sorted(set(row))))

    def test_a_thing_has_a_mark_as_the_mark_has_the_thing(self):
        for table in SMALL:
            found = turned(table)
            self.assertEqual((found[1], len(found[2])), (len(table[2]), table[1]))
            for thing, row in enumerate(table[2]):
                for mark in range(table[1]):
                    self.assertEqual(thing in found[2][mark], mark in row)

    def test_turned_twice_it_is_the_table_again(self):
        for table in SMALL + [GREATEST]:
            self.assertEqual(turned(turned(table)), table)

    def test_common_and_having_change_places(self):
        for table in SMALL:
            for things in sets_below(len(table[2])):
                self.assertEqual(common(table, things), having(turned(table), things))


class BoundsTest(unittest.TestCase):
    """[c7]: tables up to the bounds, and somewhat beyond them, raise no error."""

    def assert_served(self, table):
        _, many, rows = table
        self.assertEqual(read(write(table)), table)
        self.assertEqual(turned(turned(table)), table)
        for marks in ((), (0,), (many - 1,), (0, many - 1), tuple(range(many))):
            self.assertEqual(having(table, marks), having_of(table, marks))
            self.assertEqual(closure(table, marks), common_of(table, having_of(table, marks)))
        for things in ((), (0,), (len(rows) - 1,), (0, len(rows) - 1), tuple(range(len(rows)))):
            self.assertEqual(common(table, things), common_of(table, things))

    def test_at_the_bounds(self):
        self.assertEqual((GREATEST[1], len(GREATEST[2])), (7, 8))
        self.assert_served(GREATEST)
        for marks in sets_below(7):
            self.assertEqual(having(GREATEST, marks), having_of(GREATEST, marks))
            self.assertEqual(closure(GREATEST, marks), common_of(GREATEST, having_of(GREATEST, marks)))
        for things in sets_below(8):
            self.assertEqual(common(GREATEST, things), common_of(GREATEST, things))

    def test_beyond_the_bounds(self):
        self.assert_served(turned(GREATEST))
        for many, size in ((12, 8), (7, 30), (99, 20)):
            rows = tuple(
                tuple(mark for mark in range(many) if (mark * thing + mark) & 3 != 1) for thing in range(size)
            )
            self.assert_served(("table", many, rows))


if __name__ == "__main__":
    unittest.main()

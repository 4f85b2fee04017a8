"""[i4]: counts, the trust of rules, and Luxenburger's base."""

import unittest

from formalconcepts.rules import count, luxenburger, trust, trust_by
from tests.plain import all_closed, having_of, lectic_place
from tests.samples import (
    ALL_CLOSED, ALL_HAVE_ALL, EDGES, EXAMPLE, LARGE, NEITHER, NO_MARKS, NO_THINGS, NONE_HAS_ANY, implications_below,
    sets_below, tables_up_to,
)
from tests.shapes import ShapeCase

SMALL = tables_up_to(3, 3)
TABLES = [*SMALL, *EDGES, *LARGE]


def searched_base(table):
    """Return Luxenburger's base by the sentence of [i4]."""
    closed = all_closed(table)
    found = []
    for marks in closed:
        greater = [other for other in closed if set(marks) < set(other)]
        for other in greater:
            between = [some for some in greater if set(some) < set(other)]
            if not between and having_of(table, other):
                found.append((marks, other, len(having_of(table, other)), len(having_of(table, marks))))
    return tuple(found)


class CountTest(unittest.TestCase):
    def test_ordinary_sets(self):
        self.assertEqual(count(EXAMPLE, ()), 3)
        self.assertEqual(count(EXAMPLE, (0,)), 2)
        self.assertEqual(count(EXAMPLE, (0, 1)), 1)
        self.assertEqual(count(EXAMPLE, (0, 1, 2)), 0)

    def test_without_things_or_marks(self):
        self.assertEqual(count(NO_THINGS, ()), 0)
        self.assertEqual(count(NO_THINGS, (0, 2)), 0)
        self.assertEqual(count(NO_MARKS, ()), 2)
        self.assertEqual(count(NEITHER, ()), 0)

    def test_a_row_twice_and_rows_with_all_marks_or_none(self):
        self.assertEqual(count(("table", 2, ((0,), (0,), (1,))), (0,)), 2)
        self.assertEqual(count(ALL_HAVE_ALL, (0, 1, 2)), 2)
        self.assertEqual(count(NONE_HAS_ANY, (0,)), 0)
        self.assertEqual(count(NONE_HAS_ANY, ()), 2)

    def test_all_sets(self):
        for table in TABLES:
            for marks in sets_below(table[1]):
                found = count(table, marks)
                self.assertIs(type(found), int)
                self.assertEqual(found, len(having_of(table, marks)))


class TrustTest(unittest.TestCase):
    def test_ordinary_rules(self):
        self.assertEqual(trust(EXAMPLE, ((0,), (1,))), (1, 2))
        self.assertEqual(trust(EXAMPLE, ((2,), (0,))), (1, 1))
        self.assertEqual(trust(EXAMPLE, ((1, 2), (0,))), (0, 0))
        self.assertEqual(trust(EXAMPLE, ((0,), (1, 2))), (0, 2))

    def test_empty_sides(self):
        self.assertEqual(trust(EXAMPLE, ((), (1,))), (2, 3))
        self.assertEqual(trust(EXAMPLE, ((1,), ())), (2, 2))
        self.assertEqual(trust(EXAMPLE, ((), ())), (3, 3))

    def test_the_conclusion_within_the_premise(self):
        self.assertEqual(trust(EXAMPLE, ((0, 1), (1,))), (1, 1))

    def test_without_things_or_marks(self):
        self.assertEqual(trust(NO_THINGS, ((0,), (1,))), (0, 0))
        self.assertEqual(trust(NO_MARKS, ((), ())), (2, 2))
        self.assertEqual(trust(NEITHER, ((), ())), (0, 0))

    def test_all_rules_of_small_tables(self):
        for table in SMALL[::5]:
            for premise, conclusion in implications_below(table[1]):
                found = trust(table, (premise, conclusion))
                both = having_of(table, set(premise) | set(conclusion))
                self.assertEqual(found, (len(both), len(having_of(table, premise))))
                self.assertIs(type(found), tuple)


class LuxenburgerTest(ShapeCase):
    def test_the_example(self):
        self.assertEqual(luxenburger(EXAMPLE), (
            ((), (1,), 2, 3),
            ((), (0,), 2, 3),
            ((1,), (0, 1), 1, 2),
            ((0,), (0, 2), 1, 2),
            ((0,), (0, 1), 1, 2),
        ))

    def test_a_thing_that_has_all_marks(self):
        self.assertEqual(luxenburger(("table", 2, ((0, 1), (0,)))), (((0,), (0, 1), 1, 2),))

    def test_a_row_twice(self):
        self.assertEqual(luxenburger(("table", 2, ((), (1,), (1,)))), (((), (1,), 2, 3),))

    def test_no_rows(self):
        for table in (NO_THINGS, NO_MARKS, NEITHER, ALL_HAVE_ALL, NONE_HAS_ANY, ("table", 1, ((),))):
            self.assertEqual(luxenburger(table), ())

    def test_in_lectic_order_of_the_sets_then_of_the_others(self):
        for table in LARGE:
            many = table[1]
            places = [(lectic_place(some, many), lectic_place(other, many)) for some, other, _, _ in luxenburger(table)]
            self.assertEqual(places, sorted(places))

    def test_each_set_is_closed(self):
        # All sets but the greatest one, which no thing has, are reached from those with one mark less.
        self.assertEqual(len(luxenburger(ALL_CLOSED)), 7 * 2 ** 6 - 7)

    def test_by_the_sentence_of_the_document(self):
        for table in TABLES:
            found = luxenburger(table)
            self.assertIs(type(found), tuple)
            for row in found:
                self.assertIs(type(row), tuple)
                some, other, many, all_told = row
                self.assert_sets((some, other), table[1])
                self.assertEqual([type(many), type(all_told)], [int, int])
            self.assertEqual(found, searched_base(table))


class TrustByTest(unittest.TestCase):
    def test_the_example(self):
        base = luxenburger(EXAMPLE)
        self.assertEqual(trust_by(base, 3, (), (1,)), (2, 3))
        self.assertEqual(trust_by(base, 3, (0,), (0, 1)), (1, 2))

    def test_more_than_one_step(self):
        self.assertEqual(trust_by(luxenburger(EXAMPLE), 3, (), (0, 1)), (1, 3))
        many = 7
        rows = tuple(tuple(range(thing)) for thing in range(1, many + 1))
        base = luxenburger(("table", many, rows))
        self.assertEqual(trust_by(base, many, (0,), tuple(range(many))), (1, many))
        self.assertEqual(trust_by(base, many, (0, 1), (0, 1, 2, 3)), (4, 6))

    def test_the_greater_one_is_not_reached(self):
        base = luxenburger(EXAMPLE)
        self.assertEqual(trust_by(base, 3, (), (0, 1, 2)), (0, 3))
        self.assertEqual(trust_by(base, 3, (1,), (0, 1, 2)), (0, 2))
        self.assertEqual(trust_by(base, 3, (0, 2), (0, 1, 2)), (0, 1))
        # No way leads from the one to the other, though the base tells of both.
        self.assertEqual(trust_by(base, 3, (1,), (0, 2)), (0, 2))

    def test_the_base_is_empty(self):
        self.assertEqual(trust_by((), 2, (), (0, 1, 2)), (0, 2))

    def test_all_closed_sets(self):
        for table in TABLES:
            base = luxenburger(table)
            closed = all_closed(table)
            whole = len(having_of(table, closed[0]))
            for marks in closed:
                for other in closed:
                    if set(marks) < set(other):
                        found = trust_by(base, whole, marks, other)
                        self.assertEqual(found, (len(having_of(table, other)), len(having_of(table, marks))))
                        self.assertIs(type(found), tuple)


if __name__ == "__main__":
    unittest.main()

"""[i2] and [i3]: pseudo-closed sets, the stem base, what it decides, and the direct base."""

import unittest
from itertools import combinations

from formalconcepts.implications import broken_by, closed_under, is_base, is_derivation, keeps
from formalconcepts.lectic import is_less
from formalconcepts.stem import decide, direct, pseudo_closed, stem
from formalconcepts.tables import closure
from formalconcepts.texts import read
from tests.plain import (
    all_closed, all_pseudo_closed, closure_of, follows, has_kept, is_plain_base, is_right, keepers, lectic_place,
)
from tests.samples import (
    ALL_CLOSED, ALL_HAVE_ALL, EDGES, EXAMPLE, LARGE, NEITHER, NO_MARKS, NO_THINGS, NONE_HAS_ANY, implications_below,
    sets_below, tables_up_to,
)
from tests.shapes import ShapeCase

SMALL = tables_up_to(3, 3)
TABLES = [*SMALL, *EDGES, *LARGE]

# The closure of the pseudo-closed set (1,) stands in the pseudo-closed set (1, 2, 3).
NESTED = ("table", 5, ((0,), (1, 2), (1, 2, 3, 4), (2, 3)))


def searched_direct(table):
    """Return the direct base by the sentences of [i3]."""
    found = []
    for marks in sorted(sets_below(table[1]), key=lambda some: lectic_place(some, table[1])):
        more = set(closure_of(table, marks)) - set(marks)
        for part in combinations(marks, max(0, len(marks) - 1)):
            if len(part) < len(marks):
                more -= set(closure_of(table, part))
        if more:
            found.append((marks, tuple(sorted(more))))
    return tuple(found)


class PseudoClosedTest(ShapeCase):
    """[i2]"""

    def test_the_example(self):
        self.assertEqual(pseudo_closed(EXAMPLE), ((2,),))

    def test_without_things_or_marks(self):
        self.assertEqual(pseudo_closed(NO_THINGS), ((),))
        self.assertEqual(pseudo_closed(NO_MARKS), ())
        self.assertEqual(pseudo_closed(NEITHER), ())

    def test_all_have_all_or_none_has_any(self):
        self.assertEqual(pseudo_closed(ALL_HAVE_ALL), ((),))
        self.assertEqual(pseudo_closed(NONE_HAS_ANY), ((2,), (1,), (0,)))

    def test_none_where_each_set_is_closed(self):
        self.assertEqual(pseudo_closed(ALL_CLOSED), ())

    def test_one_that_has_the_closure_of_another_one(self):
        self.assertEqual(pseudo_closed(NESTED), all_pseudo_closed(NESTED))
        self.assertIn((1,), pseudo_closed(NESTED))
        self.assertNotIn((1, 3), pseudo_closed(NESTED))
        self.assertIn((1, 2, 3), pseudo_closed(NESTED))

    def test_by_the_sentence_of_the_document(self):
        for table in TABLES:
            found = pseudo_closed(table)
            self.assert_sets(found, table[1])
            self.assertEqual(found, all_pseudo_closed(table))


class StemTest(ShapeCase):
    """[i2]"""

    def test_the_example(self):
        self.assertEqual(stem(read("marks 3\nxx.\nx.x\n.x.\n")), (((2,), (0,)),))

    def test_without_things_or_marks(self):
        self.assertEqual(stem(NO_THINGS), (((), (0, 1, 2)),))
        self.assertEqual(stem(NO_MARKS), ())
        self.assertEqual(stem(NEITHER), ())

    def test_all_have_all_or_none_has_any(self):
        self.assertEqual(stem(ALL_HAVE_ALL), (((), (0, 1, 2)),))
        self.assertEqual(stem(NONE_HAS_ANY), (((2,), (0, 1)), ((1,), (0, 2)), ((0,), (1, 2))))

    def test_a_row_twice_and_a_row_with_all_marks(self):
        self.assertEqual(stem(("table", 2, ((0,), (0,)))), (((), (0,)),))
        self.assertEqual(stem(("table", 2, ((0,), (0, 1), (0,)))), (((), (0,)),))
        self.assertEqual(stem(("table", 2, ((), (0, 1), ()))), (((1,), (0,)), ((0,), (1,))))

    def test_to_what_the_closure_has_more(self):
        for table in TABLES:
            found = stem(table)
            self.assert_implications(found, table[1])
            expected = []
            for premise in all_pseudo_closed(table):
                more = tuple(mark for mark in closure_of(table, premise) if mark not in premise)
                expected.append((premise, more))
            self.assertEqual(found, tuple(expected))

    def test_in_lectic_order(self):
        for table in LARGE:
            found = pseudo_closed(table)
            for marks, other in zip(found, found[1:]):
                self.assertIs(is_less(marks, other), True)

    def test_it_is_a_base(self):
        for table in TABLES:
            self.assertIs(is_base(table, stem(table)), True)
        for table in SMALL[::7]:
            self.assertTrue(is_plain_base(table, stem(table)))

    def test_a_set_is_closed_exactly_if_it_keeps_the_stem_base(self):
        for table in TABLES:
            found = stem(table)
            closed = all_closed(table)
            self.assertEqual(set(keepers(found, table[1])), set(closed))
            for marks in closed:
                self.assertTrue(all(keeps(marks, implication) for implication in found))

    def test_no_base_has_fewer(self):
        # An implication that is kept may as well lead to the whole closure.
        some = [table for table in tables_up_to(3, 4) if table[1] == 4 and len(table[2]) == 3][::211]
        for table in [*SMALL, *some]:
            closed = set(all_closed(table))
            every = [(marks, closure_of(table, marks)) for marks in sets_below(table[1]) if marks not in closed]
            for fewer in combinations(every, max(0, len(stem(table)) - 1)):
                if len(fewer) < len(stem(table)):
                    self.assertNotEqual(set(keepers(fewer, table[1])), closed)


class DecideTest(ShapeCase):
    """[i2], over the whole: just one of a thing that breaks it and a derivation"""

    def assert_decided(self, table, implication):
        found = decide(table, implication)
        self.assertIs(type(found), tuple)
        told, answer = found
        breakers = [thing for thing, row in enumerate(table[2]) if not has_kept(row, implication)]
        if breakers:
            self.assertEqual(told, "thing")
            self.assert_number(answer, len(table[2]))
            self.assertEqual(answer, breakers[0])
            self.assertFalse(follows(stem(table), implication, table[1]))
            return
        self.assertEqual(told, "derivation")
        base = stem(table)
        self.assertIs(is_derivation(base, implication, answer), True)
        self.assertTrue(is_right(base, implication, answer))

    def test_the_example(self):
        self.assertEqual(decide(EXAMPLE, ((2,), (0,))), ("derivation", (0,)))
        self.assertEqual(decide(EXAMPLE, ((0,), (1,))), ("thing", 1))

    def test_empty_sides(self):
        self.assertEqual(decide(EXAMPLE, ((), ())), ("derivation", ()))
        self.assertEqual(decide(EXAMPLE, ((0,), ())), ("derivation", ()))
        self.assertEqual(decide(EXAMPLE, ((), (0,))), ("thing", 2))
        self.assertEqual(decide(EXAMPLE, ((0, 1), (1,))), ("derivation", ()))

    def test_the_least_thing(self):
        self.assertEqual(decide(("table", 2, ((0, 1), (0,), (0,))), ((), (1,))), ("thing", 1))

    def test_without_things_or_marks(self):
        self.assertEqual(decide(NO_THINGS, ((), (1,))), ("derivation", (0,)))
        self.assertEqual(decide(NO_MARKS, ((), ())), ("derivation", ()))
        self.assertEqual(decide(NEITHER, ((), ())), ("derivation", ()))

    def test_all_implications_of_small_tables(self):
        for table in [*SMALL[::4], NO_THINGS, ALL_HAVE_ALL, NONE_HAS_ANY]:
            for implication in implications_below(table[1]):
                self.assert_decided(table, implication)

    def test_large_tables(self):
        for table in LARGE:
            for premise in sets_below(table[1])[::6]:
                for conclusion in sets_below(table[1])[::25]:
                    self.assert_decided(table, (premise, conclusion))
                self.assert_decided(table, (premise, closure_of(table, premise)))


class DirectTest(ShapeCase):
    """[i3]: proper premises and the direct base"""

    def test_the_example(self):
        self.assertEqual(direct(EXAMPLE), (((2,), (0,)),))

    def test_without_things_or_marks(self):
        self.assertEqual(direct(NO_THINGS), (((), (0, 1, 2)),))
        self.assertEqual(direct(NO_MARKS), ())
        self.assertEqual(direct(NEITHER), ())

    def test_all_have_all_or_none_has_any(self):
        self.assertEqual(direct(ALL_HAVE_ALL), (((), (0, 1, 2)),))
        self.assertEqual(direct(NONE_HAS_ANY), (((2,), (0, 1)), ((1,), (0, 2)), ((0,), (1, 2))))

    def test_only_marks_of_that_kind(self):
        # The mark 2 leads to 1 already: the premise (0, 2) is for the mark 3 alone.
        table = ("table", 4, ((1,), (0,), (1, 2), (0, 1, 2, 3)))
        self.assertIn(((0, 2), (3,)), direct(table))
        self.assertIn(((2,), (1,)), direct(table))

    def test_a_set_that_is_not_closed_and_yet_no_proper_premise(self):
        # The closure of (0, 1) has the mark 2 more, but that of (1,) has it, too.
        table = ("table", 3, ((0,), (1, 2), ()))
        self.assertEqual(closure_of(table, (0, 1)), (0, 1, 2))
        self.assertEqual(direct(table), (((2,), (1,)), ((1,), (2,))))

    def test_by_the_sentences_of_the_document(self):
        for table in TABLES:
            found = direct(table)
            self.assert_implications(found, table[1])
            self.assertEqual(found, searched_direct(table))

    def test_it_is_a_base(self):
        for table in TABLES:
            self.assertIs(is_base(table, direct(table)), True)

    def test_each_closure_is_found_in_one_round(self):
        for table in TABLES:
            base = direct(table)
            for marks in sets_below(table[1]):
                found = set(marks)
                for premise, conclusion in base:
                    if set(premise) <= set(marks):
                        found |= set(conclusion)
                self.assertEqual(tuple(sorted(found)), closure_of(table, marks))


class WholeTest(unittest.TestCase):
    """Closing by the stem base, by the direct base and by the table is one"""

    def test_closing(self):
        for table in TABLES:
            bases = (stem(table), direct(table))
            for marks in sets_below(table[1]):
                found = closure(table, marks)
                for base in bases:
                    self.assertEqual(closed_under(base, marks), found)

    def test_the_table_keeps_both_bases(self):
        for table in TABLES:
            for implication in (*stem(table), *direct(table)):
                self.assertIsNone(broken_by(table, implication))

    def test_beyond_the_bounds(self):
        rows = tuple(tuple(mark for mark in range(9) if (mark * thing + mark) & 3 != 1) for thing in range(12))
        table = ("table", 9, rows)
        self.assertEqual(pseudo_closed(table), all_pseudo_closed(table))
        self.assertEqual(direct(table), searched_direct(table))


if __name__ == "__main__":
    unittest.main()

"""[c3]: the concepts of a table, those of things and marks, and their meets and joins."""

import unittest

from formalconcepts.concepts import concepts, is_concept, join, meet, of_mark, of_thing
from tests.plain import all_concepts, greatest_of, is_below, least_of
from tests.samples import (
    ALL_CLOSED, ALL_HAVE_ALL, EDGES, EXAMPLE, LARGE, NEITHER, NO_MARKS, NO_THINGS, NONE_HAS_ANY, sets_below,
    tables_up_to,
)
from tests.shapes import ShapeCase

SMALL = tables_up_to(3, 3)
TABLES = [*SMALL, *EDGES, *LARGE]

# Values that are no pairs of sets, whatever the table.
NO_PAIRS = (
    None, True, False, 0, 1, -1, 2.0, "", "ab", "01", b"", b"ab", (), [], {}, set(), frozenset(), object(), tuple,
    ((),), ((), (), ()), ((), (), "x"), [(), ()], {0: (), 1: ()}, {(): ()}, {(), 0}, range(2),
    ((), None), (None, ()), ((), 0), (0, ()), ((), ""), ("", ()), ((), []), ([], ()), ((), {}), ({}, ()),
    ((), set()), (set(), ()), ((), b""), (b"", ()), ((), range(0)), (range(0), ()), ((), False), (False, ()),
    (((),), ()), ((), ((),)), ((None,), ()), ((), (None,)), (("0",), ()), ((), ("0",)), ((0, None), ()),
    ((), (0, "1")), ((), ([0],)), (([0],), ()), ((0.0,), ()), ((), (0.0,)), "table", ("table", 0, ()),
)


class ConceptsTest(ShapeCase):
    def test_the_example(self):
        self.assertEqual(
            concepts(EXAMPLE),
            (((0, 1, 2), ()), ((0, 2), (1,)), ((0, 1), (0,)), ((1,), (0, 2)), ((0,), (0, 1)), ((), (0, 1, 2))),
        )

    def test_without_things_or_marks(self):
        self.assertEqual(concepts(NO_THINGS), (((), (0, 1, 2)),))
        self.assertEqual(concepts(NO_MARKS), (((0, 1), ()),))
        self.assertEqual(concepts(NEITHER), (((), ()),))

    def test_all_have_all_or_none_has_any(self):
        self.assertEqual(concepts(ALL_HAVE_ALL), (((0, 1), (0, 1, 2)),))
        self.assertEqual(concepts(NONE_HAS_ANY), (((0, 1), ()), ((), (0, 1, 2))))

    def test_each_set_of_marks(self):
        self.assertEqual(len(concepts(ALL_CLOSED)), 128)

    def test_a_plain_search_finds_the_same(self):
        for table in TABLES:
            found = concepts(table)
            self.assert_concepts_shape(table, found)
            self.assertEqual(found, all_concepts(table))


class IsConceptTest(unittest.TestCase):
    def assert_none(self, table, value):
        self.assertIs(is_concept(table, value), False, value)

    def test_each_pair_of_sets(self):
        for table in [*SMALL, *EDGES[:9]]:
            found = all_concepts(table)
            for things in sets_below(len(table[2]) + 1):
                for marks in sets_below(table[1] + 1):
                    self.assertIs(is_concept(table, (things, marks)), (things, marks) in found)

    def test_all_concepts_of_large_tables(self):
        for table in LARGE:
            found = all_concepts(table)
            for things, marks in found:
                self.assertIs(is_concept(table, (things, marks)), True)
                for _, others in found:
                    self.assertIs(is_concept(table, (things, others)), others == marks)

    def test_only_one_side_tells_the_other(self):
        # The things 0 and 1 have just the mark 0 in common, but the things 0, 1 and 2 have it.
        table = ("table", 2, ((0,), (0, 1), (0,)))
        self.assert_none(table, ((0, 1), (0,)))
        # The things 0 and 1 are all that have the mark 1, and have the mark 0 in common, too.
        self.assert_none(("table", 2, ((0, 1), (0, 1), ())), ((0, 1), (1,)))
        self.assertIs(is_concept(("table", 2, ((0, 1), (0, 1), ())), ((0, 1), (0, 1))), True)

    def test_the_sides_in_the_wrong_order(self):
        # All numbers are those of things and of marks.
        table = ("table", 3, ((0, 1, 2), (0,), ()))
        self.assertIs(is_concept(table, ((0, 1), (0,))), True)
        self.assert_none(table, ((0,), (0, 1)))
        self.assertIs(is_concept(table, ((0, 1, 2), ())), True)
        self.assert_none(table, ((), (0, 1, 2)))
        self.assert_none(NO_THINGS, ((0, 1, 2), ()))

    def test_sets_that_are_not_rising(self):
        for value in (
            ((2, 0), (1,)), ((0, 1, 1), (0,)), ((1, 0), (0,)), ((0, 0, 1), (0,)), ((0, 1, 0), (0,)),
            ((1,), (2, 0)), ((1,), (0, 2, 2)), ((1,), (0, 0, 2)), ((), (0, 2, 1)), ((2, 1, 0), ()), ((0, 2, 1), ()),
        ):
            self.assert_none(EXAMPLE, value)

    def test_numbers_beyond_the_table(self):
        for value in (
            ((0, 1, 2, 3), ()), ((0, 1, 3), (0,)), ((), (0, 1, 2, 3)), ((), (0, 1, 2, 7)), ((-1, 0, 1), (0,)),
            ((-1,), (1,)), ((1,), (-1, 0)), ((-3, -2), (0,)), ((0, 1), (-3,)), ((1,), (0, 10 ** 30)),
            ((10 ** 30,), (0, 1, 2)), ((-1,), (0, 1, 2)), ((3,), (0, 1, 2)),
        ):
            self.assert_none(EXAMPLE, value)
        self.assert_none(NO_THINGS, ((0,), (0, 1, 2)))
        self.assert_none(NO_MARKS, ((0, 1), (0,)))
        self.assert_none(NEITHER, ((0,), ()))
        self.assert_none(NEITHER, ((), (0,)))

    def test_numbers_of_other_kinds(self):
        for value in (
            ((False, True), (0,)), ((0, True), (0,)), ((0, 1), (False,)), ((True,), (0, 2)), ((0, 2), (True,)),
            ((0.0, 1.0), (0,)), ((0, 1), (0.0,)), ((0, 1), (0j,)), (("0", "1"), (0,)), ((0, 1), ("0",)),
            ((0, 1), (None,)), ((0, 1), ((0,),)), ((0, 1), ([],)), (([0], 1), (0,)), ((0, None), (0,)),
        ):
            self.assert_none(EXAMPLE, value)

    def test_other_kinds_in_the_place_of_tuples(self):
        for value in (
            [(0, 1), (0,)], ([0, 1], (0,)), ((0, 1), [0]), ([0, 1], [0]), ({0, 1}, (0,)), ((0, 1), {0}),
            ((0, 1), frozenset((0,))), ((0, 1), {0: True}), ({0: 1, 1: 1}, (0,)), (range(2), (0,)), ((0, 1), b"\x00"),
            (b"\x00\x01", (0,)), ((0, 1), 0), ("01", "0"), ((0, 1), (0,), ()), ((0, 1), (0,), None), ((0, 1),),
        ):
            self.assert_none(EXAMPLE, value)

    def test_no_pairs(self):
        for table in (EXAMPLE, *EDGES):
            for value in NO_PAIRS:
                self.assert_none(table, value)


class OfThingTest(ShapeCase):
    def test_the_example(self):
        self.assertEqual(of_thing(EXAMPLE, 0), ((0,), (0, 1)))
        self.assertEqual(of_thing(EXAMPLE, 1), ((1,), (0, 2)))
        self.assertEqual(of_thing(EXAMPLE, 2), ((0, 2), (1,)))

    def test_without_marks(self):
        self.assertEqual(of_thing(NO_MARKS, 1), ((0, 1), ()))

    def test_all_have_all_or_none_has_any(self):
        self.assertEqual(of_thing(ALL_HAVE_ALL, 1), ((0, 1), (0, 1, 2)))
        self.assertEqual(of_thing(NONE_HAS_ANY, 1), ((0, 1), ()))

    def test_the_least_one_among_all(self):
        for table in TABLES:
            found = all_concepts(table)
            for thing in range(len(table[2])):
                concept = of_thing(table, thing)
                self.assert_concept_shape(table, concept)
                self.assertEqual(concept, least_of([one for one in found if thing in one[0]]))


class OfMarkTest(ShapeCase):
    def test_the_example(self):
        self.assertEqual(of_mark(EXAMPLE, 0), ((0, 1), (0,)))
        self.assertEqual(of_mark(EXAMPLE, 1), ((0, 2), (1,)))
        self.assertEqual(of_mark(EXAMPLE, 2), ((1,), (0, 2)))

    def test_without_things(self):
        self.assertEqual(of_mark(NO_THINGS, 1), ((), (0, 1, 2)))

    def test_all_have_all_or_none_has_any(self):
        self.assertEqual(of_mark(ALL_HAVE_ALL, 1), ((0, 1), (0, 1, 2)))
        self.assertEqual(of_mark(NONE_HAS_ANY, 1), ((), (0, 1, 2)))

    def test_the_greatest_one_among_all(self):
        for table in TABLES:
            found = all_concepts(table)
            for mark in range(table[1]):
                concept = of_mark(table, mark)
                self.assert_concept_shape(table, concept)
                self.assertEqual(concept, greatest_of([one for one in found if mark in one[1]]))


class MeetAndJoinTest(ShapeCase):
    def test_the_example(self):
        self.assertEqual(meet(EXAMPLE, ((0, 2), (1,)), ((0, 1), (0,))), ((0,), (0, 1)))
        self.assertEqual(meet(EXAMPLE, ((1,), (0, 2)), ((0,), (0, 1))), ((), (0, 1, 2)))
        self.assertEqual(join(EXAMPLE, ((0, 2), (1,)), ((0, 1), (0,))), ((0, 1, 2), ()))
        self.assertEqual(join(EXAMPLE, ((1,), (0, 2)), ((0,), (0, 1))), ((0, 1), (0,)))

    def test_where_there_is_one_concept(self):
        for table in (NO_THINGS, NO_MARKS, NEITHER, ALL_HAVE_ALL):
            (concept,) = all_concepts(table)
            self.assertEqual(meet(table, concept, concept), concept)
            self.assertEqual(join(table, concept, concept), concept)

    def assert_pairs(self, table, found, pairs):
        for concept, other in pairs:
            lower = [one for one in found if is_below(one, concept) and is_below(one, other)]
            higher = [one for one in found if is_below(concept, one) and is_below(other, one)]
            for answer in (meet(table, concept, other), join(table, concept, other)):
                self.assert_concept_shape(table, answer)
            self.assertEqual(meet(table, concept, other), greatest_of(lower))
            self.assertEqual(join(table, concept, other), least_of(higher))

    def test_all_pairs_of_small_tables(self):
        for table in [*SMALL, *EDGES]:
            found = all_concepts(table)
            self.assert_pairs(table, found, [(concept, other) for concept in found for other in found])

    def test_pairs_of_large_tables(self):
        for table in LARGE:
            found = all_concepts(table)
            self.assert_pairs(table, found, [(concept, other) for concept in found[::5] for other in found[::3]])


if __name__ == "__main__":
    unittest.main()

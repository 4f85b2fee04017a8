"""[c3] and [c6]: the concepts directly above and below, and the lattice of a table."""

import unittest

from formalconcepts.neighbors import above, below, lattice_of
from tests.plain import all_concepts, is_below
from tests.samples import (
    ALL_CLOSED, ALL_HAVE_ALL, EDGES, EXAMPLE, LARGE, NEITHER, NO_MARKS, NO_THINGS, NONE_HAS_ANY, tables_up_to,
)
from tests.shapes import ShapeCase

SMALL = tables_up_to(3, 3)
TABLES = [*SMALL, *EDGES, *LARGE]
WITH_ONE = (NO_THINGS, NO_MARKS, NEITHER, ALL_HAVE_ALL)


def directly_above(found, concept):
    """Return those of some concepts that are directly above one, in the order in which they stand."""
    higher = [one for one in found if one != concept and is_below(concept, one)]
    return tuple(
        one for one in higher if not any(other != one and is_below(other, one) for other in higher)
    )


class AboveAndBelowTest(ShapeCase):
    def test_the_example(self):
        self.assertEqual(above(EXAMPLE, ((0,), (0, 1))), (((0, 2), (1,)), ((0, 1), (0,))))
        self.assertEqual(above(EXAMPLE, ((1,), (0, 2))), (((0, 1), (0,)),))
        self.assertEqual(above(EXAMPLE, ((), (0, 1, 2))), (((1,), (0, 2)), ((0,), (0, 1))))
        self.assertEqual(above(EXAMPLE, ((0, 1, 2), ())), ())
        self.assertEqual(below(EXAMPLE, ((0, 1, 2), ())), (((0, 2), (1,)), ((0, 1), (0,))))
        self.assertEqual(below(EXAMPLE, ((0, 2), (1,))), (((0,), (0, 1)),))
        self.assertEqual(below(EXAMPLE, ((0, 1), (0,))), (((1,), (0, 2)), ((0,), (0, 1))))
        self.assertEqual(below(EXAMPLE, ((), (0, 1, 2))), ())

    def test_where_there_is_one_concept(self):
        for table in WITH_ONE:
            (concept,) = all_concepts(table)
            self.assertEqual(above(table, concept), ())
            self.assertEqual(below(table, concept), ())

    def test_none_has_any(self):
        self.assertEqual(above(NONE_HAS_ANY, ((), (0, 1, 2))), (((0, 1), ()),))
        self.assertEqual(below(NONE_HAS_ANY, ((0, 1), ())), (((), (0, 1, 2)),))

    def test_a_row_twice(self):
        table = ("table", 2, ((1,), (1,), (0,), ()))
        self.assertEqual(above(table, ((), (0, 1))), (((0, 1), (1,)), ((2,), (0,))))
        self.assertEqual(below(table, ((0, 1, 2, 3), ())), (((0, 1), (1,)), ((2,), (0,))))

    def test_the_lectic_order_is_that_of_the_marks(self):
        # The things stand the other way round: those of the mark 2 begin with 0.
        table = ("table", 3, ((2,), (1,), (0,)))
        self.assertEqual(below(table, ((0, 1, 2), ())), (((0,), (2,)), ((1,), (1,)), ((2,), (0,))))
        self.assertEqual(above(table, ((), (0, 1, 2))), (((0,), (2,)), ((1,), (1,)), ((2,), (0,))))

    def test_a_plain_search_finds_the_same(self):
        for table in TABLES:
            found = all_concepts(table)
            higher = {concept: directly_above(found, concept) for concept in found}
            for concept in found:
                lower = tuple(one for one in found if concept in higher[one])
                for answer in (above(table, concept), below(table, concept)):
                    self.assert_concepts_shape(table, answer)
                self.assertEqual(above(table, concept), higher[concept])
                self.assertEqual(below(table, concept), lower)

    def test_the_greatest_lattice(self):
        for concept in all_concepts(ALL_CLOSED):
            self.assertEqual(len(above(ALL_CLOSED, concept)), len(concept[1]))
            self.assertEqual(len(below(ALL_CLOSED, concept)), len(concept[0]))


class LatticeOfTest(ShapeCase):
    def test_the_example(self):
        self.assertEqual(
            lattice_of(EXAMPLE),
            ("lattice", 6, ((0,), (0, 1), (0, 2), (0, 2, 3), (0, 1, 2, 4), (0, 1, 2, 3, 4, 5))),
        )

    def test_where_there_is_one_concept(self):
        for table in WITH_ONE:
            self.assertEqual(lattice_of(table), ("lattice", 1, ((0,),)))

    def test_none_has_any(self):
        self.assertEqual(lattice_of(NONE_HAS_ANY), ("lattice", 2, ((0,), (0, 1))))

    def test_the_places_of_the_concepts(self):
        for table in TABLES:
            lattice = lattice_of(table)
            found = all_concepts(table)
            self.assert_order_shape(lattice, "lattice")
            self.assertEqual(lattice[1], len(found))
            for concept, row in zip(found, lattice[2]):
                self.assertEqual(row, tuple(place for place, one in enumerate(found) if is_below(concept, one)))

    def test_a_join_and_a_meet_of_each_two(self):
        for table in [*SMALL, *EDGES]:
            _, many, rows = lattice_of(table)
            for x in range(many):
                for y in range(many):
                    higher = [z for z in range(many) if z in rows[x] and z in rows[y]]
                    lower = [z for z in range(many) if x in rows[z] and y in rows[z]]
                    self.assertEqual(1, sum(all(z in rows[one] for z in higher) for one in higher))
                    self.assertEqual(1, sum(all(one in rows[z] for z in lower) for one in lower))


if __name__ == "__main__":
    unittest.main()

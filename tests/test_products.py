"""[q4]: products of lattices, sums of tables, and what is generated."""

import unittest

from formalconcepts.lattices import is_lattice
from formalconcepts.lectic import closed_sets
from formalconcepts.neighbors import lattice_of
from formalconcepts.products import generated, product, sum_of
from formalconcepts.theorem import alike
from tests.orders import (
    DIAMOND, NAMED_LATTICES, ONE, PENTAGON, RISING_LATTICES, SQUARE, TWO, chain, cube, divisors, flat, renumbered,
    scrambled,
)
from tests.plain import all_closed, is_plain_lattice, results_of
from tests.samples import (
    ALL_HAVE_ALL, EDGES, EXAMPLE, NEITHER, NO_MARKS, NO_THINGS, NONE_HAS_ANY, sets_below, tables_up_to,
)
from tests.shapes import ShapeCase

SIX = [lattice for lattice in RISING_LATTICES if lattice[1] < 7]
SMALL = [*SIX, *[other for lattice in SIX for other in scrambled(lattice)]]
LARGER = [lattice for lattice in NAMED_LATTICES if 8 < lattice[1] <= 20]
TABLES = [*tables_up_to(2, 2)[::3], NO_THINGS, NO_MARKS, NEITHER, ALL_HAVE_ALL, NONE_HAS_ANY, EXAMPLE]


class ProductTest(ShapeCase):
    def assert_product(self, lattice, other):
        found = product(lattice, other)
        self.assert_order_shape(found, "lattice")
        many = other[1]
        self.assertEqual(found[1], lattice[1] * many)
        for number, row in enumerate(found[2]):
            x, y = number // many, number % many
            expected = [
                higher for higher in range(found[1])
                if higher // many in lattice[2][x] and higher % many in other[2][y]
            ]
            self.assertEqual(row, tuple(expected))
        return found

    def test_of_two_chains(self):
        self.assertEqual(
            product(TWO, chain(3)),
            ("lattice", 6, ((0, 1, 2, 3, 4, 5), (1, 2, 4, 5), (2, 5), (3, 4, 5), (4, 5), (5,))),
        )
        self.assertEqual(
            product(chain(3), TWO),
            ("lattice", 6, ((0, 1, 2, 3, 4, 5), (1, 3, 5), (2, 3, 4, 5), (3, 5), (4, 5), (5,))),
        )
        self.assertEqual(product(TWO, TWO), SQUARE)

    def test_with_one_element(self):
        for lattice in [*SMALL, *LARGER]:
            self.assertEqual(product(lattice, ONE), lattice)
            self.assertEqual(product(ONE, lattice), lattice)

    def test_of_cubes(self):
        self.assertEqual(product(cube(2), cube(3)), cube(5))

    def test_as_many_elements_as_there_may_be(self):
        self.assertEqual(product(cube(3), cube(3)), cube(6))
        self.assertIs(is_lattice(self.assert_product(chain(20), chain(3))), True)

    def test_by_the_sentence_of_the_document(self):
        for lattice in SMALL[::3]:
            for other in SMALL[::7]:
                self.assert_product(lattice, other)

    def test_it_is_a_lattice(self):
        for lattice in SMALL[::5]:
            for other in SMALL[::9]:
                found = product(lattice, other)
                self.assertIs(is_lattice(found), True)
                if found[1] <= 15:
                    self.assertTrue(is_plain_lattice(*found[1:]))

    def test_joins_and_meets_by_parts(self):
        for lattice, other in ((PENTAGON, TWO), (chain(3), DIAMOND), *zip(scrambled(PENTAGON), scrambled(SQUARE))):
            found = product(lattice, other)
            many = other[1]
            for whole, left, right in zip(results_of(found), results_of(lattice), results_of(other)):
                for a in range(found[1]):
                    for b in range(found[1]):
                        expected = left[a // many][b // many] * many + right[a % many][b % many]
                        self.assertEqual(whole[a][b], expected)


class SumTest(ShapeCase):
    def test_ordinary_tables(self):
        self.assertEqual(
            sum_of(EXAMPLE, ("table", 2, ((0,), ()))),
            ("table", 5, ((0, 1, 3, 4), (0, 2, 3, 4), (1, 3, 4), (0, 1, 2, 3), (0, 1, 2))),
        )
        self.assertEqual(
            sum_of(("table", 2, ((0,), ())), EXAMPLE),
            ("table", 5, ((0, 2, 3, 4), (2, 3, 4), (0, 1, 2, 3), (0, 1, 2, 4), (0, 1, 3))),
        )

    def test_without_things_or_marks(self):
        self.assertEqual(sum_of(NO_THINGS, NO_THINGS), ("table", 6, ()))
        self.assertEqual(sum_of(NO_MARKS, NO_MARKS), ("table", 0, ((), (), (), ())))
        self.assertEqual(sum_of(NO_THINGS, NO_MARKS), ALL_HAVE_ALL)
        self.assertEqual(sum_of(NO_MARKS, NO_THINGS), ALL_HAVE_ALL)
        for table in [*TABLES, *EDGES]:
            self.assertEqual(sum_of(table, NEITHER), table)
            self.assertEqual(sum_of(NEITHER, table), table)

    def test_by_the_sentence_of_the_document(self):
        for table in TABLES:
            for other in TABLES:
                found = sum_of(table, other)
                self.assert_table(found)
                many, things = table[1], len(table[2])
                self.assertEqual(found[1], many + other[1])
                self.assertEqual(len(found[2]), things + len(other[2]))
                for thing, row in enumerate(found[2]):
                    for mark in range(found[1]):
                        if thing < things and mark < many:
                            has = mark in table[2][thing]
                        elif thing >= things and mark >= many:
                            has = mark - many in other[2][thing - things]
                        else:
                            has = True
                        self.assertIs(mark in row, has)

    def test_as_many_closed_sets_as_both_multiplied(self):
        for table in TABLES:
            for other in TABLES:
                many = len(all_closed(table)) * len(all_closed(other))
                self.assertEqual(len(closed_sets(sum_of(table, other))), many)

    def test_its_lattice_is_alike_the_product_of_both(self):
        for table in TABLES[::2]:
            for other in TABLES:
                found = product(lattice_of(table), lattice_of(other))
                self.assertIsNotNone(alike(lattice_of(sum_of(table, other)), found))


class GeneratedTest(ShapeCase):
    def searched(self, lattice):
        """Return the sets of elements that have with two of them their join and meet."""
        results = results_of(lattice)
        return [
            set(some) for some in sets_below(lattice[1])
            if all(table[x][y] in some for table in results for x in some for y in some)
        ]

    def test_no_elements_one_and_all(self):
        for lattice in [*SMALL, *LARGER]:
            self.assertEqual(generated(lattice, ()), ())
            for x in range(lattice[1]):
                self.assertEqual(generated(lattice, (x,)), (x,))
            self.assertEqual(generated(lattice, tuple(range(lattice[1]))), tuple(range(lattice[1])))

    def test_a_pentagon_and_a_diamond(self):
        self.assertEqual(generated(PENTAGON, (1, 3)), (0, 1, 3, 4))
        self.assertEqual(generated(PENTAGON, (1, 2)), (1, 2))
        self.assertEqual(generated(PENTAGON, (1, 2, 3)), (0, 1, 2, 3, 4))
        self.assertEqual(generated(DIAMOND, (2, 3)), (0, 2, 3, 4))
        self.assertEqual(generated(DIAMOND, (0, 4)), (0, 4))

    def test_more_than_one_round(self):
        self.assertEqual(generated(cube(3), (1, 2, 4)), tuple(range(8)))
        # The meets of 3, 5 and 6 are 1, 2 and 4: their joins are the rest.
        self.assertEqual(generated(cube(3), (3, 5, 6)), tuple(range(8)))
        self.assertEqual(generated(cube(4), (1, 6, 10)), (0, 1, 2, 3, 6, 7, 10, 11, 14, 15))

    def test_all_sets_of_small_lattices(self):
        for lattice in SMALL:
            closed = self.searched(lattice)
            for some in sets_below(lattice[1]):
                found = generated(lattice, some)
                self.assert_set(found, lattice[1])
                self.assertEqual(set(found), set.intersection(*[other for other in closed if set(some) <= other]))

    def test_eight_elements_and_more(self):
        for lattice in (cube(3), flat(6), divisors(60), product(PENTAGON, TWO), renumbered(cube(3), [3, 1, 4, 0, 5, 2, 6, 7])):
            closed = self.searched(lattice)
            for some in sets_below(lattice[1])[::7]:
                found = generated(lattice, some)
                self.assert_set(found, lattice[1])
                self.assertEqual(set(found), set.intersection(*[other for other in closed if set(some) <= other]))

    def test_larger_lattices(self):
        self.assertEqual(generated(chain(20), (3, 7, 19)), (3, 7, 19))
        self.assertEqual(generated(flat(18), (3, 7)), (0, 3, 7, 19))
        self.assertEqual(generated(cube(4), (1, 2, 4, 8)), tuple(range(16)))


if __name__ == "__main__":
    unittest.main()

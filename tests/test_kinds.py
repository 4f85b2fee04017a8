"""[l3] and [l4]: pentagons, diamonds, the kinds of lattices, and down sets."""

import unittest
from itertools import permutations

from formalconcepts.kinds import diamond, down_sets, irreducible_order, kind, pentagon
from formalconcepts.lattices import is_order, join_irreducible, join_of, meet_of
from formalconcepts.neighbors import lattice_of
from formalconcepts.theorem import alike
from tests.orders import (
    CROWN, DIAMOND, LATTICES, NAMED_LATTICES, NO_ELEMENTS, ONE, PAPPUS, PENTAGON, RISING_LATTICES, SMALL_ORDERS, SQUARE,
    TWO, antichain, as_order, chain, cube, divisors, flat, renumbered, rising_orders, scrambled,
)
from tests.samples import ALL_CLOSED, EDGES, EXAMPLE, LARGE, sets_below, tables_up_to
from tests.shapes import ShapeCase

# Two diamonds, the greatest element of the one being the least of the other.
TOWER = ("lattice", 9, (
    (0, 1, 2, 3, 4, 5, 6, 7, 8), (1, 4, 5, 6, 7, 8), (2, 4, 5, 6, 7, 8), (3, 4, 5, 6, 7, 8), (4, 5, 6, 7, 8),
    (5, 8), (6, 8), (7, 8), (8,),
))
# A diamond and a pentagon: 0 to 4 are a diamond, 4 is the least element of the pentagon.
BOTH = ("lattice", 9, (
    (0, 1, 2, 3, 4, 5, 6, 7, 8), (1, 4, 5, 6, 7, 8), (2, 4, 5, 6, 7, 8), (3, 4, 5, 6, 7, 8), (4, 5, 6, 7, 8),
    (5, 6, 8), (6, 8), (7, 8), (8,),
))
# Seven lines with three of seven points on each: two lines share a point, and
# two points a line.
PLANE = lattice_of(("table", 7, (
    (0, 1, 2), (0, 3, 4), (0, 5, 6), (1, 3, 5), (1, 4, 6), (2, 3, 6), (2, 4, 5),
)))


def tables_of(lattice):
    """Return the joins and the meets of each two elements."""
    numbers = range(lattice[1])
    joins = [[join_of(lattice, x, y) for y in numbers] for x in numbers]
    meets = [[meet_of(lattice, x, y) for y in numbers] for x in numbers]
    return joins, meets


def by_identities(lattice):
    """Return the kind by what [l3] says of all x, y and z."""
    joins, meets = tables_of(lattice)
    numbers = range(lattice[1])
    broken = [
        (x, y, z) for x in numbers for y in numbers for z in numbers
        if meets[x][joins[y][z]] != joins[meets[x][y]][meets[x][z]]
    ]
    if not broken:
        return "distributive"
    if not any(x in lattice[2][z] for x, y, z in broken):
        return "modular"
    return "neither"


def is_pentagon(lattice, joins, meets, five):
    o, a, b, c, i = five
    return b in lattice[2][a] and meets[b][c] == meets[a][c] == o and joins[a][c] == joins[b][c] == i


def is_diamond(lattice, joins, meets, five):
    o, a, b, c, i = five
    return meets[a][b] == meets[a][c] == meets[b][c] == o and joins[a][b] == joins[a][c] == joins[b][c] == i


class PentagonAndDiamondTest(ShapeCase):
    def assert_five(self, found, lattice):
        self.assertIs(type(found), tuple)
        self.assertEqual(len(set(found)), 5)
        for x in found:
            self.assert_number(x, lattice[1])

    def test_pentagons(self):
        self.assertEqual(pentagon(PENTAGON), (0, 1, 2, 3, 4))
        self.assertEqual(pentagon(renumbered(PENTAGON, (4, 3, 2, 1, 0))), (4, 3, 2, 1, 0))
        self.assertEqual(pentagon(renumbered(PENTAGON, (1, 4, 0, 3, 2))), (1, 4, 0, 3, 2))
        self.assertEqual(pentagon(BOTH), (4, 5, 6, 7, 8))

    def test_the_example_of_the_document(self):
        table = ("table", 3, ((0, 1), (1,), (2,)))
        self.assertEqual(pentagon(lattice_of(table)), (4, 3, 2, 1, 0))

    def test_the_least_pentagon(self):
        # Three in a chain beside one: a and b are taken as low as may be.
        lattice = ("lattice", 6, ((0, 1, 2, 3, 4, 5), (1, 2, 3, 5), (2, 3, 5), (3, 5), (4, 5), (5,)))
        self.assertEqual(pentagon(lattice), (0, 1, 2, 4, 5))
        # The same with the lesser numbers higher up.
        self.assertEqual(pentagon(renumbered(lattice, (5, 4, 3, 2, 1, 0))), (5, 3, 2, 1, 0))

    def test_diamonds(self):
        self.assertEqual(diamond(DIAMOND), (0, 1, 2, 3, 4))
        self.assertEqual(diamond(renumbered(DIAMOND, (4, 3, 2, 1, 0))), (4, 1, 2, 3, 0))
        self.assertEqual(diamond(renumbered(DIAMOND, (2, 4, 0, 3, 1))), (2, 0, 3, 4, 1))
        self.assertEqual(diamond(BOTH), (0, 1, 2, 3, 4))

    def test_the_least_diamond(self):
        self.assertEqual(diamond(TOWER), (0, 1, 2, 3, 4))
        self.assertEqual(diamond(renumbered(TOWER, tuple(range(9))[::-1])), (4, 1, 2, 3, 0))
        self.assertEqual(diamond(flat(18)), (0, 1, 2, 3, 19))
        self.assertEqual(diamond(flat(4)), (0, 1, 2, 3, 5))

    def test_there_is_none(self):
        for lattice in (ONE, TWO, SQUARE, chain(3), chain(20), cube(3), cube(4), divisors(360), flat(1), flat(2)):
            self.assertIsNone(pentagon(lattice))
            self.assertIsNone(diamond(lattice))
        for lattice in (DIAMOND, TOWER, flat(18), PLANE):
            self.assertIsNone(pentagon(lattice))
        for lattice in scrambled(PENTAGON):
            self.assertIsNone(diamond(lattice))

    def test_a_plain_search_finds_the_same(self):
        lattices = [lattice for lattice in LATTICES if lattice[1] < 7]
        lattices += RISING_LATTICES[-320::9]
        lattices += [other for lattice in RISING_LATTICES[-320::40] for other in scrambled(lattice)]
        for lattice in lattices:
            joins, meets = tables_of(lattice)
            for answer, is_one in ((pentagon(lattice), is_pentagon), (diamond(lattice), is_diamond)):
                # The permutations of rising numbers are in the order of Python: the first one is the least.
                fives = permutations(range(lattice[1]), 5)
                least = next((five for five in fives if is_one(lattice, joins, meets, five)), None)
                self.assertEqual(answer, least)
                if answer is not None:
                    self.assert_five(answer, lattice)

    def test_what_is_found_in_large_lattices(self):
        for lattice in [*NAMED_LATTICES, *[lattice_of(table) for table in LARGE if table != ALL_CLOSED]]:
            joins, meets = tables_of(lattice)
            for answer, is_one in ((pentagon(lattice), is_pentagon), (diamond(lattice), is_diamond)):
                if answer is not None:
                    self.assert_five(answer, lattice)
                    self.assertTrue(is_one(lattice, joins, meets, answer))

    def test_each_kind_of_lattice_has_its_own(self):
        for lattice in LATTICES:
            told = by_identities(lattice)
            self.assertEqual(pentagon(lattice) is not None, told == "neither")
            if told != "neither":
                self.assertEqual(diamond(lattice) is not None, told == "modular")


class KindTest(unittest.TestCase):
    def test_distributive(self):
        for lattice in (ONE, TWO, SQUARE, chain(20), cube(3), cube(4), divisors(60), divisors(360), flat(1), flat(2)):
            self.assertEqual(kind(lattice), "distributive")

    def test_modular(self):
        for lattice in (DIAMOND, flat(4), flat(18), TOWER, PLANE):
            self.assertEqual(kind(lattice), "modular")

    def test_neither(self):
        for lattice in (PENTAGON, BOTH, PAPPUS):
            self.assertEqual(kind(lattice), "neither")

    def test_in_any_numbering(self):
        for lattice in [*NAMED_LATTICES, TOWER, BOTH, PLANE]:
            for other in scrambled(lattice):
                self.assertEqual(kind(other), kind(lattice))

    def test_of_tables(self):
        self.assertEqual(kind(lattice_of(EXAMPLE)), "distributive")
        self.assertEqual(kind(lattice_of(("table", 3, ((0, 1), (1,), (2,))))), "neither")
        self.assertEqual(kind(lattice_of(("table", 3, ((0,), (1,), (2,))))), "modular")
        self.assertEqual(kind(lattice_of(ALL_CLOSED)), "distributive")

    def test_by_the_identities(self):
        for lattice in [*LATTICES, TOWER, BOTH, PLANE]:
            self.assertEqual(kind(lattice), by_identities(lattice))
        for table in [*tables_up_to(3, 3), *EDGES]:
            self.assertEqual(kind(lattice_of(table)), by_identities(lattice_of(table)))


class DownSetsTest(ShapeCase):
    """[l4]"""

    def test_of_no_elements(self):
        self.assertEqual(down_sets(NO_ELEMENTS), ((),))

    def test_of_elements_without_relations(self):
        self.assertEqual(down_sets(antichain(1)), ((), (0,)))
        self.assertEqual(down_sets(antichain(2)), ((), (0,), (0, 1), (1,)))
        self.assertEqual(len(down_sets(antichain(12))), 2 ** 12)

    def test_of_chains(self):
        self.assertEqual(down_sets(as_order(chain(3))), ((), (0,), (0, 1), (0, 1, 2)))
        self.assertEqual(down_sets(("order", 3, ((0,), (0, 1), (0, 1, 2)))), ((), (0, 1, 2), (1, 2), (2,)))
        self.assertEqual(len(down_sets(as_order(chain(20)))), 21)

    def test_of_a_crown(self):
        self.assertEqual(
            down_sets(CROWN), ((), (0,), (0, 1), (0, 1, 2), (0, 1, 2, 3), (0, 1, 3), (1,)),
        )

    def test_a_plain_search_finds_the_same(self):
        orders = [*SMALL_ORDERS, *rising_orders(5), *map(as_order, RISING_LATTICES[::10])]
        for order in [*orders, *[other for order in orders[-40:] for other in scrambled(order)]]:
            _, many, above = order
            found = [
                some for some in sets_below(many)
                if all(x in some for y in some for x in range(many) if y in above[x])
            ]
            self.assert_sets(down_sets(order), many)
            self.assertEqual(down_sets(order), tuple(sorted(found)))


class IrreducibleOrderTest(ShapeCase):
    """[l4]"""

    def test_of_one_element(self):
        self.assertEqual(irreducible_order(ONE), (NO_ELEMENTS, ()))

    def test_of_chains(self):
        self.assertEqual(irreducible_order(TWO), (("order", 1, ((0,),)), (1,)))
        self.assertEqual(irreducible_order(chain(4)), (("order", 3, ((0, 1, 2), (1, 2), (2,))), (1, 2, 3)))

    def test_of_sets_and_divisors(self):
        self.assertEqual(irreducible_order(cube(3)), (antichain(3), (1, 2, 4)))
        # The divisors of 12, 1 2 3 4 6 12: 2, 3 and 4 are join irreducible, 2 is below 4.
        self.assertEqual(irreducible_order(divisors(12)), (("order", 3, ((0, 2), (1,), (2,))), (1, 2, 3)))

    def test_of_lattices_that_are_not_distributive(self):
        self.assertEqual(irreducible_order(PENTAGON), (("order", 3, ((0, 1), (1,), (2,))), (1, 2, 3)))
        self.assertEqual(irreducible_order(DIAMOND), (antichain(3), (1, 2, 3)))

    def test_in_another_numbering(self):
        lattice = renumbered(PENTAGON, (4, 3, 2, 1, 0))
        self.assertEqual(irreducible_order(lattice), (("order", 3, ((0,), (1,), (1, 2))), (1, 2, 3)))

    def test_the_order_is_that_of_the_lattice(self):
        for lattice in LATTICES:
            found = irreducible_order(lattice)
            self.assertIs(type(found), tuple)
            order, chosen = found
            self.assert_set(chosen, lattice[1])
            self.assertEqual(chosen, join_irreducible(lattice))
            self.assert_order_shape(order, "order")
            self.assertIs(is_order(order), True)
            self.assertEqual(order[1], len(chosen))
            for x, low in enumerate(chosen):
                for y, high in enumerate(chosen):
                    self.assertEqual(y in order[2][x], high in lattice[2][low])

    def test_a_distributive_lattice_is_that_of_the_down_sets(self):
        for lattice in LATTICES:
            order, _ = irreducible_order(lattice)
            if kind(lattice) == "distributive":
                sets = down_sets(order)
                rows = tuple(tuple(at for at, other in enumerate(sets) if set(some) <= set(other)) for some in sets)
                self.assertIsNotNone(alike(lattice, ("lattice", len(sets), rows)))
            elif lattice[1] < 12:
                self.assertGreater(len(down_sets(order)), lattice[1])


if __name__ == "__main__":
    unittest.main()

"""[l2], [l5] and alike: standard tables, lattices that are alike, and completions."""

import unittest
from itertools import permutations

from formalconcepts.lattices import is_lattice, join_irreducible, meet_irreducible
from formalconcepts.neighbors import lattice_of
from formalconcepts.theorem import alike, completion, led, table_of
from tests.orders import (
    CROWN, DIAMOND, LATTICES, MIXED, NAMED_LATTICES, NO_ELEMENTS, ONE, ONE_WAY, OTHER_WAY, PAPPUS, PENTAGON,
    RISING_LATTICES, ROUND, SMALL_ORDERS, SQUARE, TWO, antichain, as_order, chain, cube, divisors, flat, renumbered,
    rising_orders, scrambled,
)
from tests.plain import all_concepts, joins_of, keeps_both_ways, meets_of
from tests.samples import ALL_CLOSED, EDGES, LARGE, sets_below, tables_up_to
from tests.shapes import ShapeCase

# Ten below all but one of ten others: of all orders of 20 elements its completion has many elements.
PAIRED = ("order", 20, tuple(
    (x, *[y for y in range(10, 20) if y != x + 10]) if x < 10 else (x,) for x in range(20)
))


def searched(lattice, other):
    """Return the least tuple that leads one onto the other, by a search through all tuples."""
    if lattice[1] != other[1]:
        return None
    return next((p for p in permutations(range(lattice[1])) if keeps_both_ways(lattice, other, p)), None)


def extensions(lattice, other, places):
    """Go through all tuples that begin with some places and lead one onto the other, from the least on."""
    x = len(places)
    if x == lattice[1]:
        yield places
        return
    for y in range(other[1]):
        if y not in places and all(
            (x in lattice[2][z]) == (y in other[2][place]) and (z in lattice[2][x]) == (place in other[2][y])
            for z, place in enumerate(places)
        ):
            yield from extensions(lattice, other, (*places, y))


class TableOfTest(ShapeCase):
    """[l2]"""

    def test_of_one_element(self):
        self.assertEqual(table_of(ONE), ("table", 0, ()))

    def test_of_chains(self):
        self.assertEqual(table_of(TWO), ("table", 1, ((),)))
        self.assertEqual(table_of(chain(3)), ("table", 2, ((1,), ())))
        self.assertEqual(table_of(chain(4)), ("table", 3, ((1, 2), (2,), ())))

    def test_of_a_pentagon_and_a_diamond(self):
        self.assertEqual(table_of(PENTAGON), ("table", 3, ((0, 1), (1,), (2,))))
        self.assertEqual(table_of(DIAMOND), ("table", 3, ((0,), (1,), (2,))))

    def test_where_things_and_marks_are_other_elements(self):
        self.assertEqual(table_of(cube(3)), ("table", 3, ((0, 1), (0, 2), (1, 2))))
        # The divisors of 12, 1 2 3 4 6 12: the things are 2, 3 and 4, the marks 3, 4 and 6.
        self.assertEqual(table_of(divisors(12)), ("table", 3, ((1, 2), (0, 2), (1,))))

    def test_in_another_numbering(self):
        # 2 is below 0, and 0 below 1: the things are 0 and 1, the marks 0 and 2.
        self.assertEqual(table_of(("lattice", 3, ((0, 1), (1,), (0, 1, 2)))), ("table", 2, ((0,), ())))

    def test_a_thing_has_a_mark_if_its_element_is_below(self):
        for lattice in LATTICES:
            table = table_of(lattice)
            self.assert_table(table)
            things = join_irreducible(lattice)
            marks = meet_irreducible(lattice)
            self.assertEqual((len(table[2]), table[1]), (len(things), len(marks)))
            for low, row in zip(things, table[2]):
                self.assertEqual(row, tuple(at for at, high in enumerate(marks) if high in lattice[2][low]))

    def test_its_lattice_is_alike(self):
        for lattice in LATTICES:
            places = alike(lattice, lattice_of(table_of(lattice)))
            self.assertIsNotNone(places)
            self.assertTrue(keeps_both_ways(lattice, lattice_of(table_of(lattice)), places))


class LedTest(ShapeCase):
    """[l2]"""

    def test_of_one_element(self):
        self.assertEqual(led(ONE), (0,))

    def test_of_a_chain(self):
        # The concepts begin with the one of all things: this is the greatest element.
        self.assertEqual(led(chain(4)), (3, 2, 1, 0))

    def test_of_a_square(self):
        # The concepts: (01, -), (0, 1), (1, 0), (-, 01) in the lectic order of their marks.
        self.assertEqual(table_of(SQUARE), ("table", 2, ((0,), (1,))))
        self.assertEqual(led(SQUARE), (3, 2, 1, 0))

    def test_the_concept_of_what_is_below(self):
        for lattice in LATTICES:
            found = all_concepts(table_of(lattice)) if table_of(lattice)[1] < 12 else None
            things = join_irreducible(lattice)
            places = led(lattice)
            self.assertIs(type(places), tuple)
            self.assertEqual(sorted(places), list(range(lattice[1])))
            self.assertTrue(keeps_both_ways(lattice, lattice_of(table_of(lattice)), places))
            for x, place in enumerate(places):
                self.assert_number(place, lattice[1])
                if found is not None:
                    lower = tuple(thing for thing, low in enumerate(things) if x in lattice[2][low])
                    self.assertEqual(found[place][0], lower)


class AlikeTest(ShapeCase):
    def assert_alike(self, lattice, other):
        places = alike(lattice, other)
        self.assertIs(type(places), tuple)
        for place in places:
            self.assert_number(place, lattice[1])
        self.assertEqual(sorted(places), list(range(lattice[1])))
        self.assertTrue(keeps_both_ways(lattice, other, places))

    def test_of_one_element(self):
        self.assertEqual(alike(ONE, ONE), (0,))

    def test_a_lattice_is_alike_itself(self):
        for lattice in LATTICES:
            self.assertEqual(alike(lattice, lattice), tuple(range(lattice[1])))

    def test_of_unlike_numbers_of_elements(self):
        for many in range(1, 8):
            self.assertIsNone(alike(chain(many), chain(many + 1)))
            self.assertIsNone(alike(chain(many + 1), chain(many)))
        self.assertIsNone(alike(flat(3), flat(4)))

    def test_of_as_many_elements_and_unlike(self):
        self.assertIsNone(alike(PENTAGON, DIAMOND))
        self.assertIsNone(alike(DIAMOND, PENTAGON))
        self.assertIsNone(alike(SQUARE, chain(4)))
        self.assertIsNone(alike(flat(18), chain(20)))

    def test_the_least_tuple(self):
        self.assertEqual(alike(DIAMOND, renumbered(DIAMOND, (4, 3, 2, 1, 0))), (4, 1, 2, 3, 0))
        self.assertEqual(alike(renumbered(DIAMOND, (4, 3, 2, 1, 0)), DIAMOND), (4, 1, 2, 3, 0))
        self.assertEqual(alike(renumbered(DIAMOND, (2, 0, 1, 3, 4)), DIAMOND), (1, 2, 0, 3, 4))
        self.assertEqual(alike(PENTAGON, renumbered(PENTAGON, (4, 3, 2, 1, 0))), (4, 3, 2, 1, 0))
        self.assertEqual(alike(PENTAGON, renumbered(PENTAGON, (3, 0, 2, 1, 4))), (3, 0, 2, 1, 4))
        places = alike(flat(18), renumbered(flat(18), tuple(range(20))[::-1]))
        self.assertEqual(places, (19, *range(1, 19), 0))

    def test_turned_over(self):
        self.assertEqual(alike(chain(5), ("lattice", 5, tuple(tuple(range(x + 1)) for x in range(5)))), (4, 3, 2, 1, 0))
        # One below two that are below one, and this below the greatest, and the same upside down.
        low = ("lattice", 5, ((0, 1, 2, 3, 4), (1, 3, 4), (2, 3, 4), (3, 4), (4,)))
        high = ("lattice", 5, ((0, 1, 2, 3, 4), (1, 2, 3, 4), (2, 4), (3, 4), (4,)))
        self.assertIsNone(alike(low, high))
        self.assertIsNone(alike(high, low))

    def test_a_plain_search_finds_the_same(self):
        found = [lattice for lattice in RISING_LATTICES if lattice[1] < 6]
        found += [lattice for lattice in RISING_LATTICES if lattice[1] == 6][::4]
        others = [*found, *[other for lattice in found for other in scrambled(lattice)[:2]]]
        for lattice in found:
            for other in others:
                if lattice[1] == other[1]:
                    self.assertEqual(alike(lattice, other), searched(lattice, other))
                    self.assertEqual(alike(other, lattice), searched(other, lattice))

    def test_so_many_are_unlike(self):
        # The numbers of unlike lattices of 1 to 7 elements.
        for many, expected in zip(range(1, 8), (1, 1, 1, 2, 5, 15, 53)):
            unlike = []
            for lattice in RISING_LATTICES:
                if lattice[1] == many and all(alike(lattice, other) is None for other in unlike):
                    unlike.append(lattice)
            self.assertEqual(len(unlike), expected)

    def test_renumbered_ones_are_alike(self):
        for lattice in [*RISING_LATTICES[::7], *NAMED_LATTICES]:
            for other in scrambled(lattice):
                self.assert_alike(lattice, other)
                self.assert_alike(other, lattice)

    def test_where_no_count_of_neighbors_parts_two(self):
        for lattice, other in permutations((PAPPUS, ROUND, MIXED), 2):
            self.assertIsNone(alike(lattice, other))
        self.assertIsNone(alike(ONE_WAY, OTHER_WAY))
        self.assertIsNone(alike(OTHER_WAY, ONE_WAY))

    def test_where_the_first_choice_fails(self):
        # The points and lines take turns, that the plain search soon finds what does not fit.
        turns = (0, *[at // 2 + 1 if at % 2 == 0 else at // 2 + 10 for at in range(18)], 19)
        for lattice in (PAPPUS, ROUND, MIXED):
            mixed = renumbered(lattice, tuple(turns.index(x) for x in range(20)))
            for other in (lattice, *scrambled(lattice), *scrambled(scrambled(lattice)[1])):
                found = alike(mixed, other)
                self.assert_alike(mixed, other)
                self.assertEqual(found, next(extensions(mixed, other, ())))

    def test_the_lattices_of_large_tables(self):
        lattice = lattice_of(ALL_CLOSED)
        self.assertEqual(lattice[1], 128)
        self.assert_alike(cube(7), lattice)
        self.assertEqual(alike(cube(7), cube(7)), tuple(range(128)))

    def test_the_lattices_of_tables_in_another_numbering(self):
        for table in [*tables_up_to(2, 3), *EDGES, *LARGE]:
            lattice = lattice_of(table)
            self.assert_alike(lattice, renumbered(lattice, tuple(range(lattice[1]))[::-1]))


class CompletionTest(ShapeCase):
    """[l5]"""

    def assert_completion(self, order):
        found = completion(order)
        self.assertIs(type(found), tuple)
        lattice, places = found
        self.assert_order_shape(lattice, "lattice")
        self.assertIs(is_lattice(lattice), True)
        self.assertIs(type(places), tuple)
        self.assertEqual(len(places), order[1])
        for place in places:
            self.assert_number(place, lattice[1])
        self.assertTrue(keeps_both_ways(order, lattice, places))
        return lattice, places

    def test_of_no_elements(self):
        self.assertEqual(completion(NO_ELEMENTS), (("lattice", 1, ((0,),)), ()))

    def test_of_one_element(self):
        self.assertEqual(completion(antichain(1)), (("lattice", 1, ((0,),)), (0,)))

    def test_of_elements_without_relations(self):
        for many in (2, 3, 18, 20):
            lattice, places = self.assert_completion(antichain(many))
            self.assertEqual(lattice[1], many + 2)
            self.assertIsNotNone(alike(lattice, flat(many)))
            self.assertEqual(len(set(places)), many)

    def test_of_a_crown(self):
        lattice, _ = self.assert_completion(CROWN)
        # One element between the two lower and the two higher ones, one below and one above all.
        self.assertEqual(lattice[1], 7)

    def test_each_element_is_a_join_and_a_meet_of_the_orders(self):
        for order in [*SMALL_ORDERS, *rising_orders(5)]:
            lattice, places = self.assert_completion(order)
            for x in range(lattice[1]):
                lower = [place for place in places if x in lattice[2][place]]
                higher = [place for place in places if place in lattice[2][x]]
                self.assertEqual(joins_of(lattice, lower), [x])
                self.assertEqual(meets_of(lattice, higher), [x])

    def test_as_many_elements_as_there_are_cuts(self):
        for order in [*SMALL_ORDERS, *rising_orders(5)]:
            _, many, above = order
            cuts = set()
            for some in sets_below(many):
                higher = [y for y in range(many) if all(y in above[x] for x in some)]
                cuts.add(tuple(x for x in range(many) if all(y in above[x] for y in higher)))
            self.assertEqual(completion(order)[0][1], len(cuts))

    def test_a_lattice_is_its_own(self):
        for lattice in LATTICES:
            found, places = self.assert_completion(as_order(lattice))
            self.assertEqual(found[1], lattice[1])
            self.assertEqual(sorted(places), list(range(lattice[1])))
            self.assertIsNotNone(alike(lattice, found))

    def test_with_very_many_elements(self):
        lattice, places = completion(PAIRED)
        self.assertEqual(lattice[1], 2 ** 10)
        self.assertTrue(keeps_both_ways(PAIRED, lattice, places))


if __name__ == "__main__":
    unittest.main()

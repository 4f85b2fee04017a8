"""[q1] to [q3]: congruences, quotients, simple lattices and monoliths."""

import unittest
from itertools import combinations, product

from formalconcepts.congruences import congruences, is_congruence, is_simple, joined, monolith, quotient
from formalconcepts.lattices import is_lattice
from formalconcepts.products import product as product_of
from formalconcepts.theorem import alike
from tests.orders import (
    DIAMOND, NAMED_LATTICES, ONE, PENTAGON, RISING_LATTICES, SQUARE, TWO, chain, cube, flat, scrambled,
)
from tests.plain import all_congruences, is_kept_by, lies_within, partings, results_of
from tests.shapes import ShapeCase

SIX = [lattice for lattice in RISING_LATTICES if lattice[1] < 7]
SMALL = [*SIX, *[other for lattice in SIX for other in scrambled(lattice)]]
SEVEN = [other for lattice in RISING_LATTICES[-320::16] for other in (lattice, *scrambled(lattice)[:1])]
# As many elements as lattices for congruences have at most.
EIGHT = [chain(8), cube(3), flat(6), *scrambled(product_of(chain(4), TWO)), *scrambled(cube(3))[1:]]
BOUNDED = [*SMALL, *SEVEN, *EIGHT]
# Nobody asks for all of their congruences.
LARGER = [lattice for lattice in NAMED_LATTICES if 8 < lattice[1] <= 20]

# Values that are no tuples of numbers.
NO_TUPLES = (
    None, True, False, 0, 1, -1, 2.0, "", "00000", "01234", b"", bytes(5), [], [0, 1, 2, 3, 4], {}, {0: 0}, set(),
    frozenset(), range(5), object(), tuple, (), (0,), (0,) * 4, (0,) * 6, (0, 1, 2, 3), (0, 1, 2, 3, 4, 5), (None,) * 5,
    ((),) * 5, ("0",) * 5, (False,) * 5, (0, True, 2, 3, 4), (False, 1, 2, 3, 4), (0.0,) * 5, (0, 1, 2, 3, 4.0),
    (0, 0, 0, 0, None), (0, 0, 0, 0, "0"), (0, 0, 0, 0, [0]), ((0, 1, 2, 3, 4),), [0] * 5, [0, 0, 0, 0, 0],
    ("lattice", 5, ()), (-1,) * 5, (0, 0, 0, 0, -5), (5,) * 5, (0, 0, 0, 0, 5), (0, 0, 0, 0, 10 ** 30),
)


def whole_of(lattice):
    return (0,) * lattice[1]


def singles_of(lattice):
    return tuple(range(lattice[1]))


class IsCongruenceTest(unittest.TestCase):
    """[q1]"""

    def assert_none(self, lattice, value):
        self.assertIs(is_congruence(lattice, value), False, value)

    def test_single_elements_and_all_in_one(self):
        for lattice in [*BOUNDED, *LARGER]:
            self.assertIs(is_congruence(lattice, whole_of(lattice)), True)
            self.assertIs(is_congruence(lattice, singles_of(lattice)), True)

    def test_a_pentagon(self):
        self.assertIs(is_congruence(PENTAGON, (0, 1, 1, 3, 4)), True)
        self.assertIs(is_congruence(PENTAGON, (0, 0, 0, 3, 3)), True)
        self.assertIs(is_congruence(PENTAGON, (0, 1, 1, 0, 1)), True)
        # What the join or the meet with 3 makes of the two.
        self.assert_none(PENTAGON, (0, 0, 2, 3, 4))
        self.assert_none(PENTAGON, (0, 1, 2, 3, 2))
        self.assert_none(PENTAGON, (0, 1, 2, 2, 4))

    def test_joins_alone_or_meets_alone(self):
        # Of the square 0 and 1 are in one class: their joins with 2 are 2 and 3.
        self.assert_none(SQUARE, (0, 0, 2, 3))
        # 1 and 3 are in one class: their meets with 2 are 0 and 2.
        self.assert_none(SQUARE, (0, 1, 2, 1))
        self.assertIs(is_congruence(SQUARE, (0, 0, 2, 2)), True)
        self.assertIs(is_congruence(SQUARE, (0, 1, 0, 1)), True)
        for lattice in (flat(2), DIAMOND, PENTAGON):
            joins, meets = results_of(lattice)
            tried = partings(lattice[1])
            halves = [[told for told in tried if is_kept_by((table,), told)] for table in (joins, meets)]
            self.assertNotEqual(halves[0], halves[1])
            for told in tried:
                self.assertIs(is_congruence(lattice, told), told in halves[0] and told in halves[1])

    def test_numbers_that_are_no_least_ones(self):
        self.assertIs(is_congruence(TWO, (0, 0)), True)
        for value in ((1, 1), (1, 0)):
            self.assert_none(TWO, value)
        for value in ((1, 1, 1), (0, 2, 2), (2, 2, 2), (0, 0, 1), (1, 0, 2), (0, 2, 1), (0, 2, 0)):
            self.assert_none(chain(3), value)

    def test_another_length(self):
        for lattice in (ONE, TWO, SQUARE, PENTAGON):
            for told in (whole_of(lattice), singles_of(lattice)):
                self.assert_none(lattice, told[:-1])
                self.assert_none(lattice, told + (0,))
                self.assert_none(lattice, told + (lattice[1],))
            self.assert_none(lattice, ())

    def test_whatever_else(self):
        for value in NO_TUPLES:
            self.assert_none(PENTAGON, value)
        for value in (None, True, False, 0, "0", [0], (False,), (None,), (0.0,), ((),), ((0,),), (1,), (-1,), {0: 0}):
            self.assert_none(ONE, value)
        for value in ([0, 0], (0, False), (False, False), (0, True), (False, True), "00", {0: 0, 1: 1}):
            self.assert_none(TWO, value)

    def test_all_tuples(self):
        for lattice in SMALL:
            if lattice[1] < 5:
                expected = all_congruences(lattice)
                for value in product(range(-1, lattice[1] + 1), repeat=lattice[1]):
                    self.assertIs(is_congruence(lattice, value), value in expected)

    def test_all_ways_to_part_the_elements(self):
        for lattice in [*SMALL, *SEVEN[::8]]:
            expected = all_congruences(lattice)
            for told in partings(lattice[1]):
                self.assertIs(is_congruence(lattice, told), told in expected)


class CongruencesTest(ShapeCase):
    """[q1]"""

    def test_few_elements(self):
        self.assertEqual(congruences(ONE), ((0,),))
        self.assertEqual(congruences(TWO), ((0, 0), (0, 1)))
        self.assertEqual(congruences(chain(3)), ((0, 0, 0), (0, 0, 2), (0, 1, 1), (0, 1, 2)))
        self.assertEqual(congruences(SQUARE), ((0, 0, 0, 0), (0, 0, 2, 2), (0, 1, 0, 1), (0, 1, 2, 3)))

    def test_a_pentagon_and_a_diamond(self):
        self.assertEqual(congruences(DIAMOND), ((0, 0, 0, 0, 0), (0, 1, 2, 3, 4)))
        self.assertEqual(
            congruences(PENTAGON),
            ((0, 0, 0, 0, 0), (0, 0, 0, 3, 3), (0, 1, 1, 0, 1), (0, 1, 1, 3, 4), (0, 1, 2, 3, 4)),
        )

    def test_chains(self):
        # Each cut between neighbors may be there or not.
        for many in range(1, 10):
            self.assertEqual(len(congruences(chain(many))), 2 ** (many - 1))

    def test_a_plain_search_finds_the_same(self):
        for lattice in [*SMALL, *SEVEN, *EIGHT[::2]]:
            self.assertEqual(congruences(lattice), all_congruences(lattice))

    def test_shapes_and_order(self):
        for lattice in BOUNDED:
            found = congruences(lattice)
            self.assertIs(type(found), tuple)
            self.assertEqual(found, tuple(sorted(set(found))))
            for told in found:
                self.assertIs(type(told), tuple)
                for number in told:
                    self.assert_number(number, lattice[1])
                self.assertIs(is_congruence(lattice, told), True)


class JoinedTest(unittest.TestCase):
    """[q1]: the one within all that have the pairs together"""

    def assert_joined(self, lattice, pairs):
        found = joined(lattice, pairs)
        self.assertIs(type(found), tuple)
        self.assertTrue(all(type(number) is int for number in found))
        fitting = [told for told in all_congruences(lattice) if all(told[x] == told[y] for x, y in pairs)]
        self.assertIn(found, fitting)
        self.assertTrue(all(lies_within(found, told) for told in fitting))

    def test_no_pairs(self):
        for lattice in [*BOUNDED, *LARGER]:
            self.assertEqual(joined(lattice, ()), singles_of(lattice))

    def test_pairs_of_one_element_twice(self):
        for lattice in [*BOUNDED, *LARGER]:
            self.assertEqual(joined(lattice, tuple((x, x) for x in range(lattice[1]))), singles_of(lattice))

    def test_all(self):
        for lattice in [*BOUNDED, *LARGER]:
            self.assertEqual(joined(lattice, tuple((0, x) for x in range(lattice[1]))), whole_of(lattice))

    def test_a_pentagon(self):
        self.assertEqual(joined(PENTAGON, ((1, 2),)), (0, 1, 1, 3, 4))
        self.assertEqual(joined(PENTAGON, ((2, 1),)), (0, 1, 1, 3, 4))
        self.assertEqual(joined(PENTAGON, ((0, 1),)), (0, 0, 0, 3, 3))
        self.assertEqual(joined(PENTAGON, ((3, 0),)), (0, 1, 1, 0, 1))
        self.assertEqual(joined(PENTAGON, ((0, 4),)), (0, 0, 0, 0, 0))
        self.assertEqual(joined(PENTAGON, ((1, 3),)), (0, 0, 0, 0, 0))
        self.assertEqual(joined(PENTAGON, ((0, 1), (0, 3))), (0, 0, 0, 0, 0))

    def test_pairs_that_hang_together(self):
        self.assertEqual(joined(chain(5), ((1, 2), (3, 2))), (0, 1, 1, 1, 4))
        self.assertEqual(joined(chain(5), ((1, 3),)), (0, 1, 1, 1, 4))
        self.assertEqual(joined(chain(5), ((0, 1), (3, 4), (0, 1))), (0, 0, 2, 3, 3))

    def test_all_pairs(self):
        for lattice in SMALL:
            for pair in product(range(lattice[1]), repeat=2):
                self.assert_joined(lattice, (pair,))

    def test_more_pairs(self):
        for lattice in [*[lattice for lattice in SMALL if lattice[1] < 6], *SEVEN[::9], cube(3)]:
            for pairs in [*combinations(combinations(range(lattice[1]), 2), 2)][::9]:
                self.assert_joined(lattice, pairs)

    def test_larger_lattices(self):
        for lattice in LARGER:
            for x in range(0, lattice[1], 3):
                found = joined(lattice, ((x, lattice[1] - 1 - x), (0, x)))
                self.assertIs(is_congruence(lattice, found), True)
                self.assertEqual(found[0], found[x])
                self.assertEqual(found[x], found[lattice[1] - 1 - x])
        self.assertEqual(joined(chain(20), ((3, 9),)), (0, 1, 2) + (3,) * 7 + tuple(range(10, 20)))


class QuotientTest(ShapeCase):
    """[q2]"""

    def assert_quotient(self, lattice, told):
        found = quotient(lattice, told)
        self.assertIs(type(found), tuple)
        other, places = found
        self.assert_order_shape(other, "lattice")
        self.assertIs(is_lattice(other), True)
        leasts = sorted(set(told))
        self.assertIs(type(places), tuple)
        self.assertEqual(places, tuple(leasts.index(least) for least in told))
        self.assertEqual(other[1], len(leasts))
        classes = [[x for x in range(lattice[1]) if told[x] == least] for least in leasts]
        for place, some in enumerate(classes):
            higher = {at for at, more in enumerate(classes) if any(y in lattice[2][x] for x in some for y in more)}
            self.assertEqual(other[2][place], tuple(sorted(higher)))
        return other, places

    def test_single_elements(self):
        for lattice in [*SMALL, *LARGER]:
            self.assertEqual(quotient(lattice, singles_of(lattice)), (lattice, singles_of(lattice)))

    def test_all_in_one(self):
        for lattice in [*SMALL, *LARGER]:
            self.assertEqual(quotient(lattice, whole_of(lattice)), (ONE, whole_of(lattice)))

    def test_a_pentagon(self):
        self.assertEqual(
            quotient(PENTAGON, (0, 1, 1, 3, 4)),
            (("lattice", 4, ((0, 1, 2, 3), (1, 3), (2, 3), (3,))), (0, 1, 1, 2, 3)),
        )
        self.assertEqual(quotient(PENTAGON, (0, 0, 0, 3, 3)), (TWO, (0, 0, 0, 1, 1)))
        self.assertEqual(quotient(PENTAGON, (0, 1, 1, 0, 1)), (TWO, (0, 1, 1, 0, 1)))

    def test_numbered_by_their_least_elements(self):
        down = ("lattice", 3, ((0,), (0, 1), (0, 1, 2)))
        self.assertEqual(quotient(down, (0, 1, 1)), (("lattice", 2, ((0,), (0, 1))), (0, 1, 1)))
        self.assertEqual(quotient(down, (0, 0, 2)), (("lattice", 2, ((0,), (0, 1))), (0, 0, 1)))

    def test_joins_and_meets_are_kept(self):
        for lattice in [*SMALL, *SEVEN[::5], *EIGHT[:3]]:
            results = results_of(lattice)
            for told in congruences(lattice)[::3]:
                other, places = self.assert_quotient(lattice, told)
                for table, lesser in zip(results, results_of(other)):
                    for x, y in product(range(lattice[1]), repeat=2):
                        self.assertEqual(places[table[x][y]], lesser[places[x]][places[y]])

    def test_all_congruences(self):
        for lattice in BOUNDED:
            for told in congruences(lattice):
                self.assert_quotient(lattice, told)

    def test_larger_lattices(self):
        for lattice in LARGER:
            for x in range(lattice[1]):
                self.assert_quotient(lattice, joined(lattice, ((0, x),)))

    def test_of_a_product_by_one_side(self):
        lattice = product_of(PENTAGON, SQUARE)
        found, places = quotient(lattice, tuple(number // 4 * 4 for number in range(20)))
        self.assertEqual(found, PENTAGON)
        self.assertEqual(places, tuple(number // 4 for number in range(20)))
        self.assertEqual(quotient(lattice, tuple(number % 4 for number in range(20)))[0], SQUARE)


class SimpleTest(unittest.TestCase):
    """[q3]"""

    def test_named_ones(self):
        self.assertIs(is_simple(ONE), False)
        self.assertIs(is_simple(TWO), True)
        self.assertIs(is_simple(chain(3)), False)
        self.assertIs(is_simple(SQUARE), False)
        self.assertIs(is_simple(PENTAGON), False)
        self.assertIs(is_simple(DIAMOND), True)
        self.assertIs(is_simple(flat(6)), True)

    def test_a_plain_search_finds_the_same(self):
        for lattice in [*SMALL, *SEVEN]:
            self.assertIs(is_simple(lattice), lattice[1] > 1 and len(all_congruences(lattice)) == 2)


class MonolithTest(unittest.TestCase):
    """[q3]"""

    def test_named_ones(self):
        self.assertIsNone(monolith(ONE))
        self.assertEqual(monolith(TWO), (0, 0))
        self.assertIsNone(monolith(chain(3)))
        self.assertIsNone(monolith(SQUARE))
        self.assertEqual(monolith(PENTAGON), (0, 1, 1, 3, 4))
        self.assertEqual(monolith(DIAMOND), (0, 0, 0, 0, 0))

    def test_in_other_numberings(self):
        for lattice in scrambled(PENTAGON):
            other, places = quotient(lattice, monolith(lattice))
            self.assertIsNotNone(alike(other, SQUARE))
            self.assertEqual(len(places), 5)

    def test_a_plain_search_finds_the_same(self):
        for lattice in [*SMALL, *SEVEN]:
            others = [told for told in all_congruences(lattice) if told != singles_of(lattice)]
            least = [told for told in others if all(lies_within(told, other) for other in others)]
            self.assertEqual(monolith(lattice), least[0] if least else None)

    def test_a_simple_one_is_its_own(self):
        for lattice in BOUNDED:
            if is_simple(lattice):
                self.assertEqual(monolith(lattice), whole_of(lattice))

    def test_no_product_has_one(self):
        for lattice, other in product([chain(2), chain(3), SQUARE], [chain(2), chain(4)]):
            self.assertIsNone(monolith(product_of(lattice, other)))


if __name__ == "__main__":
    unittest.main()

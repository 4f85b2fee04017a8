"""[c6] and [l1]: orders, lattices, joins and meets, and irreducible elements."""

import unittest
from itertools import product

from formalconcepts.lattices import is_lattice, is_order, join_irreducible, join_of, meet_irreducible, meet_of
from formalconcepts.neighbors import lattice_of
from tests.orders import (
    CROWN, DIAMOND, LATTICES, NO_ELEMENTS, ONE, PENTAGON, SMALL_ORDERS, SQUARE, TWO, all_orders, antichain, as_order,
    chain, cube, divisors, flat, rising_orders, scrambled,
)
from tests.plain import is_plain_lattice, is_plain_order, joins_of, meets_of
from tests.samples import EDGES, LARGE, sets_below, tables_up_to
from tests.shapes import ShapeCase

# Values that are no triples of a word, a number and a tuple.
OTHER_KINDS = (
    None, True, False, 0, 1, -1, 2.0, 1j, "", "order", "lattice", "ord", b"", b"lat", (), [], {}, set(), frozenset(),
    range(3), object(), tuple, len, ("order",), ("lattice",), ("order", 0), ("lattice", 1), ((0,),), (((0,),),),
    ("order", 0, (), ()), ("lattice", 1, ((0,),), None), ("table", 1, ((0,),)), ("table", 0, ()), ((0, 1), (1,)),
)


def rows_of(many):
    """Return for each element all sets of numbers, in whatever way they may stand together."""
    return product(sets_below(many), repeat=many)


def broken_shapes(word, many, rows):
    """Return values that are just not in the shape of [c6]."""
    head, tail = rows[0], rows[1:]
    for told in ("Order", "LATTICE", "orders", "", "table", None, 0, True, word.encode(), (word,), [word], word + " "):
        yield (told, many, rows)
    for number in (many + 1, many - 1, -many, 0, -1, None, str(many), float(many), (many,), [many], 10 ** 30):
        yield (word, number, rows)
    for others in (list(rows), set(rows), dict(enumerate(rows)), None, "", 0, many, (rows,), frozenset(rows)):
        yield (word, many, others)
    yield (word, many, tail)
    yield (word, many, rows + rows)
    yield (word, many, (*rows, (many,)))
    yield (word, many, (*rows, ()))
    yield (word, many + 1, (*rows, ()))
    yield (word, many + 1, (*rows, (many + 1,)))
    for row in (
        list(head), set(head), dict.fromkeys(head), frozenset(head), None, 0, "0", b"\x00", (head,), range(many),
        (*head, many), (-1, *head), (*head, -1), (*head, head[-1]), (head[0], *head), (*head, None), (*head, "1"),
        (*head, True), (False, *head), (*head, 10 ** 30), tuple(float(x) for x in head), tuple(str(x) for x in head),
        tuple((x,) for x in head), (*head, ()), (*head, []), (*head, float(many)),
    ):
        yield (word, many, (row, *tail))
    yield [word, many, rows]
    yield {word: many}
    yield (word, rows, many)
    yield (many, word, rows)
    yield (word, many, rows, rows)
    yield ((word, many, rows),)


class IsOrderTest(unittest.TestCase):
    def assert_none(self, value):
        self.assertIs(is_order(value), False, value)

    def test_orders(self):
        for order in (NO_ELEMENTS, CROWN, antichain(1), antichain(20), as_order(chain(20)), as_order(PENTAGON)):
            self.assertIs(is_order(order), True)

    def test_in_any_numbering(self):
        for order in (CROWN, antichain(5), as_order(PENTAGON), as_order(divisors(60)), as_order(cube(4))):
            for other in scrambled(order):
                self.assertIs(is_order(other), True)

    def test_lattices_are_none(self):
        for lattice in LATTICES:
            self.assert_none(lattice)
            self.assertIs(is_order(as_order(lattice)), True)

    def test_a_relation_that_lacks_an_element_itself(self):
        self.assert_none(("order", 1, ((),)))
        self.assert_none(("order", 2, ((0,), ())))
        self.assert_none(("order", 2, ((1,), (1,))))
        self.assert_none(("order", 3, ((0, 1, 2), (2,), (2,))))

    def test_a_relation_that_is_not_kept_through_a_third_element(self):
        self.assert_none(("order", 3, ((0, 1), (1, 2), (2,))))
        self.assert_none(("order", 3, ((0,), (0, 1), (1, 2))))
        self.assert_none(("order", 4, ((0, 1, 2), (1, 2), (2, 3), (3,))))

    def test_a_relation_that_goes_both_ways(self):
        self.assert_none(("order", 2, ((0, 1), (0, 1))))
        self.assert_none(("order", 3, ((0, 1, 2), (0, 1, 2), (2,))))
        self.assert_none(("order", 3, ((0, 1, 2), (0, 1, 2), (0, 1, 2))))
        self.assert_none(("order", 3, ((0, 1), (1, 2), (0, 2))))

    def test_numbers_beyond_the_elements(self):
        self.assert_none(("order", 1, ((0, 1),)))
        self.assert_none(("order", 1, ((-1, 0),)))
        self.assert_none(("order", 2, ((0, 2), (1,))))
        self.assert_none(("order", 0, ((),)))

    def test_true_and_false_in_the_place_of_numbers(self):
        for value in (
            ("order", True, ((0,),)), ("order", False, ()), ("order", 1, ((False,),)),
            ("order", 2, ((0, True), (1,))), ("order", 2, ((False, 1), (1,))), ("order", 2, ((0, 1), (True,))),
        ):
            self.assert_none(value)

    def test_sets_that_do_not_rise(self):
        for value in (
            ("order", 2, ((1, 0), (1,))), ("order", 2, ((0, 1, 1), (1,))), ("order", 1, ((0, 0),)),
            ("order", 3, ((0, 2, 1), (1, 2), (2,))), ("order", 3, ((0,), (1, 0), (2,))),
        ):
            self.assert_none(value)

    def test_shapes_that_are_just_none(self):
        for rows in (((0,),), ((0, 1), (1,)), ((0, 1, 2), (1,), (2,)), CROWN[2], PENTAGON[2]):
            self.assertIs(is_order(("order", len(rows), rows)), True)
            for value in broken_shapes("order", len(rows), rows):
                self.assert_none(value)

    def test_without_elements(self):
        for value in (
            ("order", 0, []), ("order", 0, ((),)), ("order", 1, ()), ("order", -1, ()), ("order", 0, None),
            ("order", 0.0, ()), ("order", False, ()), ("order", "0", ()), ("order", 0, ""), ("order", 0, {}),
        ):
            self.assert_none(value)

    def test_values_of_every_other_kind(self):
        for value in OTHER_KINDS:
            self.assert_none(value)

    def test_all_relations_of_three_elements(self):
        for many in range(4):
            for rows in rows_of(many):
                self.assertIs(is_order(("order", many, rows)), is_plain_order(many, rows))

    def test_there_are_so_many_of_them(self):
        found = [sum(is_order(("order", many, rows)) for rows in rows_of(many)) for many in range(4)]
        self.assertEqual(found, [1, 1, 3, 19])
        self.assertEqual(len([order for order in SMALL_ORDERS if order[1] == 4 and is_order(order)]), 219)

    def test_a_number_put_in_or_left_out(self):
        for order in (CROWN, as_order(PENTAGON), as_order(DIAMOND), as_order(divisors(60))):
            _, many, rows = order
            for x in range(many):
                for y in range(many):
                    row = tuple(sorted(set(rows[x]) ^ {y}))
                    changed = (*rows[:x], row, *rows[x + 1:])
                    self.assertIs(is_order(("order", many, changed)), is_plain_order(many, changed))


class IsLatticeTest(unittest.TestCase):
    def assert_none(self, value):
        self.assertIs(is_lattice(value), False, value)

    def test_lattices_in_any_numbering(self):
        for lattice in LATTICES:
            self.assertIs(is_lattice(lattice), True)

    def test_lattices_of_tables(self):
        for table in [*tables_up_to(3, 3), *EDGES, *LARGE]:
            self.assertIs(is_lattice(lattice_of(table)), True)

    def test_orders_are_none(self):
        self.assert_none(NO_ELEMENTS)
        for lattice in LATTICES:
            self.assert_none(as_order(lattice))

    def test_without_elements(self):
        self.assert_none(("lattice", 0, ()))

    def test_orders_that_lack_a_join_or_a_meet(self):
        for rows in (
            antichain(2)[2], CROWN[2],
            # two below nothing in common
            ((0, 1, 2), (1,), (2,)), ((0, 2), (1, 2), (2,)),
            # the two in the middle are above both others, with one above and one below all of them
            ((0, 1, 2, 3, 4, 5), (1, 3, 4, 5), (2, 3, 4, 5), (3, 5), (4, 5), (5,)),
        ):
            self.assertIs(is_order(("order", len(rows), rows)), True)
            self.assert_none(("lattice", len(rows), rows))

    def test_true_and_false_in_the_place_of_numbers(self):
        for value in (
            ("lattice", True, ((0,),)), ("lattice", 1, ((False,),)), ("lattice", 2, ((0, True), (1,))),
            ("lattice", 2, ((False, 1), (1,))), ("lattice", 2, ((0, 1), (True,))), ("lattice", False, ()),
        ):
            self.assert_none(value)

    def test_sets_that_do_not_rise(self):
        for value in (
            ("lattice", 2, ((1, 0), (1,))), ("lattice", 2, ((0, 1, 1), (1,))), ("lattice", 1, ((0, 0),)),
            ("lattice", 3, ((0, 2, 1), (1, 2), (2,))),
        ):
            self.assert_none(value)

    def test_relations_that_are_no_order(self):
        for rows in (
            ((),), ((0, 1), ()), ((1,), (1,)), ((0, 1), (0, 1)), ((0, 1), (1, 2), (2,)), ((0, 1), (1, 2), (0, 2)),
            ((0, 1, 2), (0, 1, 2), (2,)), ((0, 1, 2), (2,), (2,)), ((0, 1, 2, 3), (1, 2), (2, 3), (3,)),
        ):
            self.assert_none(("lattice", len(rows), rows))

    def test_shapes_that_are_just_none(self):
        for lattice in (ONE, TWO, SQUARE, PENTAGON, DIAMOND, flat(18)):
            for value in broken_shapes(*lattice):
                self.assert_none(value)

    def test_values_of_every_other_kind(self):
        for value in OTHER_KINDS:
            self.assert_none(value)

    def test_all_relations_of_three_elements(self):
        for many in range(4):
            for rows in rows_of(many):
                self.assertIs(is_lattice(("lattice", many, rows)), is_plain_lattice(many, rows))

    def test_all_orders_of_few_elements(self):
        for order in [*SMALL_ORDERS, *rising_orders(5)]:
            self.assertIs(is_lattice(("lattice", *order[1:])), is_plain_lattice(*order[1:]))

    def test_there_are_so_many_of_them(self):
        found = [sum(is_lattice(("lattice", *order[1:])) for order in all_orders(many)) for many in range(5)]
        self.assertEqual(found, [0, 1, 2, 6, 36])

    def test_a_number_put_in_or_left_out(self):
        for lattice in (TWO, SQUARE, PENTAGON, DIAMOND, divisors(60), *scrambled(PENTAGON)):
            _, many, rows = lattice
            for x in range(many):
                for y in range(many):
                    row = tuple(sorted(set(rows[x]) ^ {y}))
                    changed = (*rows[:x], row, *rows[x + 1:])
                    self.assertIs(is_lattice(("lattice", many, changed)), is_plain_lattice(many, changed))


class JoinAndMeetTest(ShapeCase):
    def test_of_one_element(self):
        self.assertEqual(join_of(ONE, 0, 0), 0)
        self.assertEqual(meet_of(ONE, 0, 0), 0)

    def test_of_a_chain(self):
        for x in range(20):
            for y in range(20):
                self.assertEqual(join_of(chain(20), x, y), max(x, y))
                self.assertEqual(meet_of(chain(20), x, y), min(x, y))

    def test_of_a_pentagon(self):
        self.assertEqual(join_of(PENTAGON, 1, 3), 4)
        self.assertEqual(meet_of(PENTAGON, 2, 3), 0)
        self.assertEqual(join_of(PENTAGON, 1, 2), 2)
        self.assertEqual(meet_of(PENTAGON, 1, 2), 1)

    def test_of_bits(self):
        for x in range(16):
            for y in range(16):
                self.assertEqual(join_of(cube(4), x, y), x | y)
                self.assertEqual(meet_of(cube(4), x, y), x & y)

    def test_a_plain_search_finds_the_same(self):
        for lattice in LATTICES:
            many = lattice[1]
            for x in range(many):
                for y in range(0, many, 1 if many < 12 else 3):
                    join = join_of(lattice, x, y)
                    meet = meet_of(lattice, x, y)
                    self.assert_number(join, many)
                    self.assert_number(meet, many)
                    self.assertEqual([join], joins_of(lattice, (x, y)))
                    self.assertEqual([meet], meets_of(lattice, (x, y)))


class IrreducibleTest(ShapeCase):
    """[l1]"""

    def test_of_one_element_there_is_none(self):
        self.assertEqual(join_irreducible(ONE), ())
        self.assertEqual(meet_irreducible(ONE), ())

    def test_of_a_chain_all_but_one_are(self):
        self.assertEqual(join_irreducible(chain(20)), tuple(range(1, 20)))
        self.assertEqual(meet_irreducible(chain(20)), tuple(range(19)))

    def test_of_a_pentagon_and_a_diamond(self):
        self.assertEqual(join_irreducible(PENTAGON), (1, 2, 3))
        self.assertEqual(meet_irreducible(PENTAGON), (1, 2, 3))
        self.assertEqual(join_irreducible(DIAMOND), (1, 2, 3))
        self.assertEqual(meet_irreducible(DIAMOND), (1, 2, 3))

    def test_of_all_sets(self):
        self.assertEqual(join_irreducible(cube(4)), (1, 2, 4, 8))
        self.assertEqual(meet_irreducible(cube(4)), (7, 11, 13, 14))

    def test_of_divisors(self):
        # 1 2 3 4 5 6 10 12 15 20 30 60: these are the powers of primes.
        self.assertEqual(join_irreducible(divisors(60)), (1, 2, 3, 4))

    def test_in_another_numbering(self):
        other = ("lattice", 4, ((0,), (0, 1), (0, 2), (0, 1, 2, 3)))
        self.assertEqual(join_irreducible(other), (1, 2))
        self.assertEqual(meet_irreducible(other), (1, 2))
        other = ("lattice", 3, ((0, 1), (1,), (0, 1, 2)))
        self.assertEqual(join_irreducible(other), (0, 1))
        self.assertEqual(meet_irreducible(other), (0, 2))

    def test_a_plain_search_finds_the_same(self):
        for lattice in LATTICES:
            _, many, above = lattice
            lower = [[y for y in range(many) if x in above[y] and x != y] for x in range(many)]
            higher = [[y for y in above[x] if x != y] for x in range(many)]
            self.assert_set(join_irreducible(lattice), many)
            self.assert_set(meet_irreducible(lattice), many)
            self.assertEqual(
                join_irreducible(lattice), tuple(x for x in range(many) if joins_of(lattice, lower[x]) != [x]),
            )
            self.assertEqual(
                meet_irreducible(lattice), tuple(x for x in range(many) if meets_of(lattice, higher[x]) != [x]),
            )


if __name__ == "__main__":
    unittest.main()

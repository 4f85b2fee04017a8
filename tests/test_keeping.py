"""[x3]: keepers, whose tables are changed thing by thing."""

import unittest
from itertools import product

from formalconcepts.errors import ThingFault
from formalconcepts.keeping import Keeper
from formalconcepts.lectic import closed_sets
from tests.plain import all_closed, lectic_place
from tests.samples import EDGES, EXAMPLE, LARGE, sets_below, tables_up_to
from tests.shapes import ShapeCase

SMALL = tables_up_to(3, 3)


def keeper_of(table):
    """Return a keeper to which the things of a table were added."""
    keeper = Keeper(table[1])
    for row in table[2]:
        keeper.add(row)
    return keeper


class KeeperCase(ShapeCase):
    def assert_keeps(self, keeper, many, rows):
        """Ask for the table, and for the closed sets that a reckoning anew gives."""
        self.assertEqual(keeper.table, ("table", many, rows))
        self.assert_table(keeper.table)
        self.assert_sets(keeper.closed, many)
        self.assertEqual(keeper.closed, all_closed(keeper.table))
        self.assertEqual(keeper.closed, closed_sets(keeper.table))

    def assert_no_such_thing(self, keeper, thing):
        before = (keeper.table, keeper.closed)
        for deed in (lambda: keeper.remove(thing), lambda: keeper.changed(thing, ())):
            with self.assertRaises(ThingFault) as caught:
                deed()
            self.assertEqual(caught.exception.reason, "no such thing")
            self.assertEqual((keeper.table, keeper.closed), before)

    def assert_added(self, keeper, row):
        many, rows = keeper.table[1:]
        before = keeper.closed
        found = keeper.add(row)
        self.assertIs(type(found), tuple)
        self.assertEqual([type(number) for number in found], [int, int])
        self.assert_keeps(keeper, many, (*rows, row))
        self.assertEqual(found, (len(rows), len(set(keeper.closed) - set(before))))

    def assert_removed(self, keeper, thing):
        many, rows = keeper.table[1:]
        before = keeper.closed
        found = keeper.remove(thing)
        self.assertIs(type(found), int)
        self.assert_keeps(keeper, many, (*rows[:thing], *rows[thing + 1:]))
        self.assertEqual(found, len(set(before) - set(keeper.closed)))

    def assert_changed(self, keeper, thing, row):
        many, rows = keeper.table[1:]
        before = keeper.closed
        found = keeper.changed(thing, row)
        self.assertIs(type(found), tuple)
        new, gone = found
        self.assert_keeps(keeper, many, (*rows[:thing], row, *rows[thing + 1:]))
        for sets, expected in ((new, set(keeper.closed) - set(before)), (gone, set(before) - set(keeper.closed))):
            self.assert_sets(sets, many)
            self.assertEqual(sets, tuple(sorted(expected, key=lambda marks: lectic_place(marks, many))))


class NewKeeperTest(KeeperCase):
    def test_no_things_yet(self):
        for many in range(8):
            keeper = Keeper(many)
            self.assert_keeps(keeper, many, ())
            self.assertEqual(keeper.closed, (tuple(range(many)),))

    def test_no_such_thing(self):
        for thing in (0, 1, -1, 10 ** 30):
            self.assert_no_such_thing(Keeper(3), thing)


class AddTest(KeeperCase):
    def test_the_example(self):
        keeper = Keeper(3)
        self.assertEqual(keeper.add((0, 1)), (0, 1))
        self.assertEqual(keeper.add((0, 2)), (1, 2))
        self.assertEqual(keeper.add((1,)), (2, 2))
        self.assertEqual(keeper.table, EXAMPLE)
        self.assertEqual(keeper.closed, ((), (1,), (0,), (0, 2), (0, 1), (0, 1, 2)))

    def test_nothing_new(self):
        keeper = keeper_of(EXAMPLE)
        for number, row in enumerate(((0, 1), (0,), (), (0, 1, 2)), start=3):
            self.assertEqual(keeper.add(row), (number, 0))

    def test_without_marks(self):
        keeper = Keeper(0)
        self.assertEqual(keeper.add(()), (0, 0))
        self.assertEqual(keeper.add(()), (1, 0))
        self.assert_keeps(keeper, 0, ((), ()))

    def test_whatever_is_added(self):
        for table in [*SMALL[::3], *EDGES, *LARGE]:
            keeper = Keeper(table[1])
            for row in table[2]:
                self.assert_added(keeper, row)

    def test_one_keeper_leaves_another_one_alone(self):
        keeper, other = Keeper(2), Keeper(2)
        keeper.add((0,))
        self.assert_keeps(other, 2, ())


class RemoveTest(KeeperCase):
    def test_first_last_and_between(self):
        for thing, rows, gone in ((0, ((0, 2), (1,)), 2), (1, ((0, 1), (1,)), 3), (2, ((0, 1), (0, 2)), 2)):
            keeper = keeper_of(EXAMPLE)
            self.assertEqual(keeper.remove(thing), gone)
            self.assert_keeps(keeper, 3, rows)

    def test_later_things_move_down(self):
        keeper = keeper_of(("table", 4, ((0,), (1,), (2,), (3,))))
        keeper.remove(1)
        keeper.remove(1)
        self.assert_keeps(keeper, 4, ((0,), (3,)))
        self.assertEqual(keeper.add((1, 2)), (2, 1))

    def test_nothing_is_gone(self):
        keeper = keeper_of(("table", 2, ((0,), (1,), (0,), (), (0, 1))))
        for thing in (4, 3, 0):
            self.assertEqual(keeper.remove(thing), 0)
        self.assert_keeps(keeper, 2, ((1,), (0,)))

    def test_the_last_thing_that_there_is(self):
        keeper = Keeper(2)
        keeper.add(())
        self.assertEqual(keeper.remove(0), 1)
        self.assert_keeps(keeper, 2, ())
        self.assert_no_such_thing(keeper, 0)

    def test_without_marks(self):
        keeper = keeper_of(("table", 0, ((), ())))
        self.assertEqual(keeper.remove(1), 0)
        self.assert_keeps(keeper, 0, ((),))

    def test_no_such_thing(self):
        for thing in (3, 4, 10 ** 30, -1, -2, -3, -4, -10 ** 30):
            self.assert_no_such_thing(keeper_of(EXAMPLE), thing)

    def test_whatever_is_taken_out(self):
        for table in [*SMALL[::3], *EDGES, *LARGE]:
            for thing in range(len(table[2])):
                self.assert_removed(keeper_of(table), thing)


class ChangedTest(KeeperCase):
    def test_the_example(self):
        keeper = keeper_of(EXAMPLE)
        self.assertEqual(keeper.changed(1, (2,)), (((2,),), ((0,), (0, 2))))
        self.assert_keeps(keeper, 3, ((0, 1), (2,), (1,)))

    def test_the_same_row(self):
        keeper = keeper_of(EXAMPLE)
        for thing, row in enumerate(EXAMPLE[2]):
            self.assertEqual(keeper.changed(thing, row), ((), ()))
        self.assert_keeps(keeper, 3, EXAMPLE[2])

    def test_in_lectic_order(self):
        keeper = keeper_of(("table", 3, ((0,), (0, 1, 2))))
        self.assertEqual(keeper.changed(1, (1, 2)), (((), (1, 2)), ()))
        self.assertEqual(keeper.changed(0, (0, 1, 2)), ((), ((), (0,))))

    def test_first_last_and_between(self):
        for table in (EXAMPLE, ("table", 3, ((0, 1), (0, 1), (), (0, 1, 2)))):
            for thing in range(len(table[2])):
                for row in sets_below(3):
                    self.assert_changed(keeper_of(table), thing, row)

    def test_without_marks(self):
        keeper = keeper_of(("table", 0, ((), ())))
        self.assertEqual(keeper.changed(0, ()), ((), ()))

    def test_no_such_thing(self):
        self.assert_no_such_thing(keeper_of(EXAMPLE), 3)
        self.assert_no_such_thing(keeper_of(EXAMPLE), -1)

    def test_large_tables(self):
        for table in LARGE:
            for thing in range(len(table[2])):
                for row in ((), (0, 2, 4), tuple(range(table[1]))):
                    self.assert_changed(keeper_of(table), thing, row)


class DeedsTest(KeeperCase):
    """One deed after the other"""

    def assert_done(self, many, deeds):
        keeper = Keeper(many)
        for deed in deeds:
            things = len(keeper.table[2])
            if deed[0] == "add":
                self.assert_added(keeper, deed[1])
            elif deed[1] >= things:
                self.assert_no_such_thing(keeper, deed[1])
            elif deed[0] == "remove":
                self.assert_removed(keeper, deed[1])
            else:
                self.assert_changed(keeper, *deed[1:])

    def test_all_short_ways(self):
        deeds = (("add", (0,)), ("add", (1,)), ("add", ()), ("remove", 0), ("remove", 1), ("change", 0, (0, 1)))
        for way in product(deeds, repeat=4):
            self.assert_done(2, way)

    def test_a_long_way(self):
        sets = sets_below(5)
        deeds = []
        for step in range(90):
            row = sets[step * 11 % 32]
            deeds.append((("add", row), ("add", row), ("remove", step % 7), ("change", step % 5, row))[step * step % 4])
            deeds.append((("change", step % 3, row), ("add", row), ("remove", step % 2))[step % 3])
        self.assert_done(5, deeds)


if __name__ == "__main__":
    unittest.main()

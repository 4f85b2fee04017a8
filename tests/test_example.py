"""The Example at the front of the document, and what goes over the whole program."""

import unittest

from formalconcepts.concepts import concepts
from formalconcepts.congruences import congruences, quotient
from formalconcepts.exploring import explore
from formalconcepts.keeping import Keeper
from formalconcepts.kinds import kind, pentagon
from formalconcepts.lectic import closed_sets
from formalconcepts.neighbors import lattice_of
from formalconcepts.stem import decide, stem
from formalconcepts.texts import read, write
from formalconcepts.theorem import alike
from tests.samples import EDGES, LARGE, tables_up_to

TABLES = [*tables_up_to(3, 3)[::5], *EDGES, *LARGE]


class ExampleTest(unittest.TestCase):
    def test_a_table(self):
        t = read("marks 3\nxx.\nx.x\n.x.\n")
        self.assertEqual(
            concepts(t),
            (((0, 1, 2), ()), ((0, 2), (1,)), ((0, 1), (0,)), ((1,), (0, 2)), ((0,), (0, 1)), ((), (0, 1, 2))),
        )
        self.assertEqual(stem(t), (((2,), (0,)),))
        self.assertEqual(
            (decide(t, ((2,), (0,))), decide(t, ((0,), (1,)))), (("derivation", (0,)), ("thing", 1)),
        )

    def test_its_lattice_and_another_one(self):
        t = read("marks 3\nxx.\nx.x\n.x.\n")
        u = read("marks 3\nxx.\n.x.\n..x\n")
        self.assertEqual(
            (kind(lattice_of(t)), kind(lattice_of(u)), pentagon(lattice_of(u))),
            ("distributive", "neither", (4, 3, 2, 1, 0)),
        )


class WholeTest(unittest.TestCase):
    def test_a_table_goes_through_its_text(self):
        for table in TABLES:
            self.assertEqual(read(write(table)), table)

    def test_an_expert_who_is_asked_tells_as_many_concepts(self):
        for table in TABLES:
            if table[1] <= 5:
                accepted, known = explore(table[1], (), table)
                self.assertEqual(accepted, stem(table))
                self.assertEqual(closed_sets(known), closed_sets(table))
                self.assertIsNotNone(alike(lattice_of(known), lattice_of(table)))

    def test_a_keeper_that_got_all_things_tells_the_closed_sets(self):
        for table in TABLES:
            keeper = Keeper(table[1])
            new = sum(keeper.add(row)[1] for row in table[2])
            self.assertEqual((keeper.table, keeper.closed), (table, closed_sets(table)))
            self.assertEqual(len(keeper.closed), new + 1)
            gone = sum(keeper.remove(0) for _ in table[2])
            self.assertEqual((gone, keeper.closed), (new, (tuple(range(table[1])),)))

    def test_quotients_are_of_the_same_kind_or_a_simpler_one(self):
        kinds = ("distributive", "modular", "neither")
        for table in TABLES:
            lattice = lattice_of(table)
            if lattice[1] <= 8:
                for told in congruences(lattice):
                    other, _ = quotient(lattice, told)
                    self.assertLessEqual(kinds.index(kind(other)), kinds.index(kind(lattice)))


if __name__ == "__main__":
    unittest.main()

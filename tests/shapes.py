"""The shapes of Part 0, kinds included: assertEqual takes True for 1, and does not ask for the kind."""

import unittest


class ShapeCase(unittest.TestCase):
    def assert_number(self, number, many):
        self.assertIs(type(number), int)
        self.assertIn(number, range(many))

    def assert_set(self, some, many):
        self.assertIs(type(some), tuple)
        for number in some:
            self.assert_number(number, many)
        self.assertEqual(some, tuple(sorted(set(some))))

    def assert_sets(self, found, many):
        self.assertIs(type(found), tuple)
        for some in found:
            self.assert_set(some, many)

    def assert_table(self, table):
        self.assertIs(type(table), tuple)
        word, many, rows = table
        self.assertEqual(word, "table")
        self.assertIs(type(many), int)
        self.assert_sets(rows, many)

    def assert_concept_shape(self, table, concept):
        self.assertIs(type(concept), tuple)
        things, marks = concept
        self.assert_set(things, len(table[2]))
        self.assert_set(marks, table[1])

    def assert_concepts_shape(self, table, found):
        self.assertIs(type(found), tuple)
        for concept in found:
            self.assert_concept_shape(table, concept)

    def assert_order_shape(self, order, word):
        self.assertIs(type(order), tuple)
        told, many, above = order
        self.assertEqual(told, word)
        self.assertIs(type(many), int)
        self.assertEqual(len(above), many)
        self.assert_sets(above, many)

    def assert_implications(self, found, many):
        self.assertIs(type(found), tuple)
        for implication in found:
            self.assertIs(type(implication), tuple)
            self.assertEqual(len(implication), 2)
            self.assert_sets(implication, many)

"""Sets as Part 0 tells them: rising tuples of whole numbers."""

import unittest

from formalconcepts.sets import are_numbers, is_part, is_set, lacking, mask_of, shared, united
from tests.samples import sets_below

# No sets, whatever may stand in them.
NO_SETS = (
    None, True, False, 0, 1, 2.0, "", "0", b"", b"\x00", [], [0], {}, {0: 0}, set(), {0}, frozenset(), range(0),
    range(2), object(), tuple, (None,), (True,), (False,), (False, 1), (0, True), (0.0,), (0, 1.0), ("0",), (0, "1"),
    (b"0",), ((),), ((0,),), ([],), ([0],), ({},), (0, None), (1, 0), (0, 0), (0, 1, 1), (0, 2, 1), (8, 1), (16, 8),
    (-1,), (-1, 0), (0, -1), (-2, -1),
)


class IsSetTest(unittest.TestCase):
    def test_rising_tuples_of_numbers_below_the_bound(self):
        for many in range(6):
            for some in sets_below(6):
                self.assertIs(is_set(some, many), all(number < many for number in some))

    def test_no_sets(self):
        for value in NO_SETS:
            self.assertIs(is_set(value, 20), False, value)

    def test_at_the_bound_and_beyond(self):
        self.assertIs(is_set((2,), 3), True)
        self.assertIs(is_set((3,), 3), False)
        self.assertIs(is_set((0, 10 ** 30), 3), False)
        self.assertIs(is_set((), 0), True)
        self.assertIs(is_set((0,), 0), False)


class AreNumbersTest(unittest.TestCase):
    def test_in_any_order(self):
        for value in ((), (0,), (2, 0), (1, 1), (0, 1, 0), (2, 1, 0)):
            self.assertIs(are_numbers(value, 3), True)

    def test_beyond_the_bounds(self):
        for value in ((3,), (0, 3), (-1,), (0, -1), (10 ** 30,)):
            self.assertIs(are_numbers(value, 3), False)
        self.assertIs(are_numbers((), 0), True)
        self.assertIs(are_numbers((0,), 0), False)

    def test_other_kinds(self):
        for value in (None, True, 0, "0", [], [0], (True,), (0, False), (0.0,), ("0",), (None,), ((),), {0: 0}, range(1)):
            self.assertIs(are_numbers(value, 3), False, value)


class OthersTest(unittest.TestCase):
    def test_against_the_sets_of_python(self):
        for some in sets_below(5):
            self.assertEqual(mask_of(some), sum(2 ** number for number in some))
            for other in sets_below(5):
                self.assertIs(is_part(some, other), set(some) <= set(other))
                self.assertEqual(shared(some, other), tuple(sorted(set(some) & set(other))))
                self.assertEqual(united(some, other), tuple(sorted(set(some) | set(other))))
                self.assertEqual(lacking(some, other), tuple(sorted(set(some) - set(other))))


if __name__ == "__main__":
    unittest.main()

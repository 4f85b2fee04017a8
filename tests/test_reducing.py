"""[r1] and [r2]: needless things and marks, reduced tables, and arrows."""

import unittest

from formalconcepts.lectic import closed_sets
from formalconcepts.neighbors import lattice_of
from formalconcepts.reducing import arrows, needless_marks, needless_things, reduced
from formalconcepts.tables import turned
from formalconcepts.theorem import alike, table_of
from tests.orders import LATTICES
from tests.plain import all_closed, common_of
from tests.samples import (
    ALL_CLOSED, ALL_HAVE_ALL, EDGES, EXAMPLE, LARGE, NEITHER, NO_MARKS, NO_THINGS, NONE_HAS_ANY, sets_below,
    tables_up_to,
)
from tests.shapes import ShapeCase

TABLES = [*tables_up_to(3, 3), *EDGES, *LARGE]

TWICE = ("table", 3, ((0,), (1,), (0,), (1, 2)))
# The thing 1 has what 0 and 3 have in common.
IN_COMMON = ("table", 4, ((0, 1, 2), (1, 2), (3,), (1, 2, 3), (0,)))
# The thing 1 has all marks.
WITH_ALL = ("table", 2, ((0,), (0, 1), (1,)))


def searched_needless(table):
    """Return the needless things by the sentence of [r1], by a search through all sets of things."""
    rows = table[2]
    found = []
    for thing, row in enumerate(rows):
        more = [other for other, marks in enumerate(rows) if set(row) < set(marks)]
        common = [common_of(table, [more[at] for at in some]) for some in sets_below(len(more))]
        if row in rows[:thing] or row in common:
            found.append(thing)
    return tuple(found)


def turned_over(table):
    """Return the turned table, by a search."""
    _, many, rows = table
    return ("table", len(rows), tuple(
        tuple(thing for thing, row in enumerate(rows) if mark in row) for mark in range(many)
    ))


def searched_sign(table, thing, mark):
    """Return the sign by the sentences of [r2]."""
    _, many, rows = table
    extents = turned_over(table)[2]
    if mark in rows[thing]:
        return "x"
    down = all(mark in row for row in rows if set(rows[thing]) < set(row))
    up = all(thing in extent for extent in extents if set(extents[mark]) < set(extent))
    return {(True, True): "b", (True, False): "d", (False, True): "u", (False, False): "."}[(down, up)]


class NeedlessTest(ShapeCase):
    """[r1]"""

    def test_nothing_is_needless(self):
        for table in (EXAMPLE, ALL_CLOSED, NEITHER, ("table", 1, ((),)), ("table", 3, ((0,), (1,), (2,)))):
            self.assertEqual(needless_things(table), ())
            self.assertEqual(needless_marks(table), ())

    def test_a_row_twice(self):
        self.assertEqual(needless_things(TWICE), (2,))
        self.assertEqual(needless_things(("table", 2, ((0,), (0,), (1,), (0,), (1,)))), (1, 3, 4))

    def test_a_row_that_is_what_two_others_have_in_common(self):
        self.assertEqual(needless_things(IN_COMMON), (1,))
        self.assertEqual(needless_things(("table", 2, ((0,), (1,), ()))), (2,))

    def test_a_row_that_only_all_of_three_have_in_common(self):
        self.assertEqual(needless_things(("table", 4, ((3,), (0, 1, 3), (0, 2, 3), (1, 2, 3)))), (0,))

    def test_a_row_with_just_one_that_has_more(self):
        self.assertEqual(needless_things(("table", 2, ((0,), (0, 1)))), (1,))
        self.assertEqual(needless_things(("table", 3, ((0,), (0, 1)))), ())

    def test_a_row_that_is_among_two_others_and_not_what_they_have_in_common(self):
        self.assertEqual(needless_things(("table", 4, ((0,), (0, 1, 2), (0, 1, 3)))), ())

    def test_a_thing_that_has_all_marks(self):
        self.assertEqual(needless_things(WITH_ALL), (1,))
        self.assertEqual(needless_things(ALL_HAVE_ALL), (0, 1))

    def test_without_things_or_marks(self):
        self.assertEqual(needless_things(NO_THINGS), ())
        self.assertEqual(needless_marks(NO_THINGS), (0, 1, 2))
        self.assertEqual(needless_things(NO_MARKS), (0, 1))
        self.assertEqual(needless_marks(NO_MARKS), ())
        self.assertEqual(needless_things(NEITHER), ())

    def test_none_has_any(self):
        self.assertEqual(needless_things(NONE_HAS_ANY), (1,))
        self.assertEqual(needless_marks(NONE_HAS_ANY), (1, 2))

    def test_marks(self):
        # The mark 2 has the things of 0; the mark 3 those that 0 and 1 share; the mark 4 all.
        table = ("table", 5, ((0, 2, 4), (1, 4), (0, 1, 2, 3, 4)))
        self.assertEqual(needless_marks(table), (2, 3, 4))

    def test_a_plain_search_finds_the_same(self):
        for table in TABLES:
            self.assert_set(needless_things(table), len(table[2]))
            self.assert_set(needless_marks(table), table[1])
            self.assertEqual(needless_things(table), searched_needless(table))
            self.assertEqual(needless_marks(table), searched_needless(turned_over(table)))

    def test_of_standard_tables_nothing_is_needless(self):
        for lattice in LATTICES:
            table = table_of(lattice)
            self.assertEqual((needless_things(table), needless_marks(table)), ((), ()))


class ReducedTest(ShapeCase):
    """[r1]"""

    def test_nothing_is_left_out(self):
        self.assertEqual(reduced(EXAMPLE), (EXAMPLE, (0, 1, 2), (0, 1, 2)))
        self.assertEqual(reduced(NEITHER), (NEITHER, (), ()))
        self.assertEqual(reduced(ALL_CLOSED), (ALL_CLOSED, tuple(range(7)), tuple(range(7))))

    def test_things_and_marks_are_left_out(self):
        # The mark 2 has the things of 0, and the thing 1 those marks that 0 and 3 share.
        table = ("table", 4, ((0, 1, 2), (0, 2), (1, 3), (0, 2, 3)))
        self.assertEqual(needless_things(table), (1,))
        self.assertEqual(needless_marks(table), (2,))
        self.assertEqual(reduced(table), (("table", 3, ((0, 1), (1, 2), (0, 2))), (0, 2, 3), (0, 1, 3)))

    def test_a_row_twice(self):
        self.assertEqual(reduced(TWICE), (("table", 3, ((0,), (1,), (1, 2))), (0, 1, 3), (0, 1, 2)))

    def test_a_thing_that_has_all_marks(self):
        self.assertEqual(reduced(WITH_ALL), (("table", 2, ((0,), (1,))), (0, 2), (0, 1)))

    def test_nothing_stays(self):
        for table in (NO_THINGS, NO_MARKS, NEITHER, ALL_HAVE_ALL):
            self.assertEqual(reduced(table), (NEITHER, (), ()))

    def test_none_has_any(self):
        self.assertEqual(reduced(NONE_HAS_ANY), (("table", 1, ((),)), (0,), (0,)))

    def test_what_stays(self):
        for table in TABLES:
            found = reduced(table)
            self.assertIs(type(found), tuple)
            other, things, marks = found
            self.assert_table(other)
            self.assert_set(things, len(table[2]))
            self.assert_set(marks, table[1])
            self.assertEqual(sorted((*things, *searched_needless(table))), list(range(len(table[2]))))
            self.assertEqual(sorted((*marks, *searched_needless(turned_over(table)))), list(range(table[1])))
            self.assertEqual((len(other[2]), other[1]), (len(things), len(marks)))
            for thing, row in zip(things, other[2]):
                self.assertEqual(row, tuple(at for at, mark in enumerate(marks) if mark in table[2][thing]))

    def test_nothing_is_needless_any_more(self):
        for table in TABLES:
            other = reduced(table)[0]
            self.assertEqual((needless_things(other), needless_marks(other)), ((), ()))
            everything = (tuple(range(len(other[2]))), tuple(range(other[1])))
            self.assertEqual(reduced(other), (other, *everything))

    def test_as_many_closed_sets(self):
        for table in TABLES:
            other = reduced(table)[0]
            self.assertEqual(len(closed_sets(other)), len(all_closed(table)))

    def test_the_lattice_is_alike(self):
        for table in TABLES:
            self.assertIsNotNone(alike(lattice_of(table), lattice_of(reduced(table)[0])))

    def test_as_many_things_and_marks_as_the_standard_table(self):
        for table in TABLES:
            other = reduced(table)[0]
            standard = table_of(lattice_of(table))
            self.assertEqual((len(other[2]), other[1]), (len(standard[2]), standard[1]))


class ArrowsTest(unittest.TestCase):
    """[r2]"""

    def test_each_sign(self):
        self.assertEqual(arrows(("table", 3, ((0, 1), (1,), (2,)))), ("xxb", "bxu", "dbx"))
        self.assertEqual(arrows(EXAMPLE), ("xxb", "xbx", "bx."))

    def test_without_things_or_marks(self):
        self.assertEqual(arrows(NO_THINGS), ())
        self.assertEqual(arrows(NO_MARKS), ("", ""))
        self.assertEqual(arrows(NEITHER), ())

    def test_all_have_all_or_none_has_any(self):
        self.assertEqual(arrows(ALL_HAVE_ALL), ("xxx", "xxx"))
        self.assertEqual(arrows(NONE_HAS_ANY), ("bbb", "bbb"))

    def test_each_lacks_one_mark(self):
        for thing, text in enumerate(arrows(ALL_CLOSED)):
            self.assertEqual(text, "x" * thing + "b" + "x" * (6 - thing))

    def test_a_thing_that_has_all_marks(self):
        self.assertEqual(arrows(WITH_ALL), ("xb", "xx", "bx"))

    def test_a_needless_thing(self):
        # The thing 1 has what 0 and 3 share: no sign of its row points down.
        self.assertTrue(all(sign in "xu." for sign in arrows(IN_COMMON)[1]))

    def test_by_the_sentences_of_the_document(self):
        for table in TABLES:
            _, many, rows = table
            found = arrows(table)
            self.assertIs(type(found), tuple)
            self.assertTrue(all(type(text) is str for text in found))
            expected = tuple(
                "".join(searched_sign(table, thing, mark) for mark in range(many)) for thing in range(len(rows))
            )
            self.assertEqual(found, expected)

    def test_of_the_turned_table(self):
        swap = {"x": "x", "b": "b", ".": ".", "u": "d", "d": "u"}
        for table in TABLES:
            found = arrows(table)
            other = arrows(turned(table))
            for thing, text in enumerate(found):
                for mark, sign in enumerate(text):
                    self.assertEqual(other[mark][thing], swap[sign])

    def test_what_is_not_needless_has_its_arrow(self):
        # Of unlike rows just those of needless things have no arrow that points down.
        for table in TABLES:
            rows = table[2]
            firsts = [thing for thing in range(len(rows)) if rows[thing] not in rows[:thing]]
            for thing in firsts:
                pointed = any(sign in "db" for sign in arrows(table)[thing])
                self.assertEqual(pointed, thing not in needless_things(table))


if __name__ == "__main__":
    unittest.main()

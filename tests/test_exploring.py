"""[x1] and [x2]: explorers, their questions, and the answers to them."""

import unittest

from formalconcepts.errors import AnswerFault
from formalconcepts.exploring import Explorer, explore
from formalconcepts.stem import stem
from tests.plain import closure_of, follows, has_kept, least_missing
from tests.samples import EXAMPLE, NEITHER, NO_MARKS, NO_THINGS, NONE_HAS_ANY, implications_below, sets_below, tables_up_to
from tests.shapes import ShapeCase

SMALL = tables_up_to(3, 3)

# Worlds of five marks, some with more than eight things.
WORLDS = (
    ("table", 5, ((0, 1), (1, 2), (2, 3), (3, 4), (0, 4))),
    ("table", 5, ((0, 1, 2), (0, 2, 4), (1, 3), (2, 3, 4), (), (0, 1, 2, 3, 4))),
    ("table", 5, tuple(tuple(range(thing)) for thing in range(6))),
    ("table", 5, tuple(sets_below(5))),
    ("table", 5, tuple(marks for marks in sets_below(5) if len(marks) != 2)),
    ("table", 5, tuple(marks for marks in sets_below(5) if 0 not in marks or 3 in marks) * 2),
    ("table", 5, ((), ()) + tuple((mark,) for mark in range(5)) * 2),
)


def state(explorer):
    """Return what an explorer tells of itself."""
    return (explorer.table, explorer.accepted, explorer.question())


def reason_by(explorer, row):
    """Return the first reason that holds against a row, by the words of the interface."""
    asked = least_missing(explorer.table, explorer.accepted)
    if asked is None:
        return "no question"
    if not set(asked[0]) <= set(row):
        return "lacks the premise"
    if set(asked[1]) <= set(row):
        return "has the conclusion"
    for number, implication in enumerate(explorer.accepted):
        if not has_kept(row, implication):
            return f"breaks {number}"
    return None


def copied(explorer):
    """Return another explorer that knows the same."""
    other = Explorer(explorer.table[1], explorer.table[2])
    other.accepted = explorer.accepted
    return other


class ExplorerCase(ShapeCase):
    def assert_state(self, explorer):
        self.assert_table(explorer.table)
        self.assert_implications(explorer.accepted, explorer.table[1])
        asked = explorer.question()
        self.assertEqual(asked, least_missing(explorer.table, explorer.accepted))
        if asked is not None:
            self.assert_implications((asked,), explorer.table[1])

    def assert_refused(self, explorer, row, reason):
        before = state(explorer)
        with self.assertRaises(AnswerFault) as caught:
            explorer.reject(row)
        self.assertEqual(caught.exception.reason, reason)
        self.assertEqual(state(explorer), before)

    def assert_not_accepted(self, explorer):
        before = state(explorer)
        with self.assertRaises(AnswerFault) as caught:
            explorer.accept()
        self.assertEqual(caught.exception.reason, "no question")
        self.assertEqual(state(explorer), before)


class QuestionTest(ExplorerCase):
    """[x1]"""

    def test_without_rows(self):
        explorer = Explorer(3, ())
        self.assertEqual(explorer.table, ("table", 3, ()))
        self.assertEqual(explorer.accepted, ())
        self.assertEqual(explorer.question(), ((), (0, 1, 2)))

    def test_without_marks(self):
        for rows in ((), ((),), ((), ())):
            explorer = Explorer(0, rows)
            self.assertEqual(state(explorer), (("table", 0, rows), (), None))
            self.assert_not_accepted(explorer)
            self.assert_refused(explorer, (), "no question")

    def test_with_rows_from_the_start(self):
        explorer = Explorer(3, EXAMPLE[2])
        self.assertEqual(state(explorer), (EXAMPLE, (), ((2,), (0,))))
        self.assertEqual(Explorer(3, ((), ())).question(), ((2,), (0, 1)))

    def test_no_question_from_the_start(self):
        explorer = Explorer(2, ((0,), (1,)))
        self.assertIsNone(explorer.question())
        self.assert_not_accepted(explorer)
        self.assert_refused(explorer, (), "no question")

    def test_asking_changes_nothing(self):
        explorer = Explorer(3, ((0,),))
        self.assertEqual(state(explorer), state(explorer))
        self.assertEqual(explorer.table, ("table", 3, ((0,),)))
        self.assertEqual(explorer.accepted, ())

    def test_the_least_set_in_lectic_order(self):
        for table in SMALL:
            self.assert_state(Explorer(table[1], table[2]))

    def test_under_what_is_accepted(self):
        explorer = Explorer(4, ((0, 1), (1, 2), (0, 1, 2), (0, 1, 2, 3)))
        asked = [explorer.question()]
        while asked[-1] is not None:
            self.assert_state(explorer)
            explorer.accept()
            asked.append(explorer.question())
        self.assertEqual(tuple(asked[:-1]), explorer.accepted)
        self.assertEqual(explorer.accepted, stem(explorer.table))


class AcceptTest(ExplorerCase):
    """[x2]: the question is taken"""

    def test_in_the_order_of_acceptance(self):
        explorer = Explorer(3, ((), ()))
        for accepted in ((((2,), (0, 1)),), (((2,), (0, 1)), ((1,), (0, 2)))):
            explorer.accept()
            self.assertEqual(explorer.accepted, accepted)
            self.assertEqual(explorer.table, ("table", 3, ((), ())))
        explorer.accept()
        self.assertEqual(explorer.accepted, stem(NONE_HAS_ANY))
        self.assertIsNone(explorer.question())
        self.assert_not_accepted(explorer)

    def test_all_of_no_rows(self):
        explorer = Explorer(2, ())
        explorer.accept()
        self.assertEqual(state(explorer), (("table", 2, ()), (((), (0, 1)),), None))

    def test_one_explorer_leaves_another_one_alone(self):
        explorer, other = Explorer(2, ()), Explorer(2, ())
        explorer.accept()
        self.assertEqual(state(other), (("table", 2, ()), (), ((), (0, 1))))


class RejectTest(ExplorerCase):
    """[x2]: rows against the question"""

    def test_right_rows_stand_last_in_the_order_of_telling(self):
        explorer = Explorer(3, ())
        explorer.reject((0, 1))
        self.assertEqual(state(explorer), (("table", 3, ((0, 1),)), (), ((), (0, 1))))
        explorer.reject((1,))
        self.assertEqual(explorer.table, ("table", 3, ((0, 1), (1,))))
        explorer.reject(())
        self.assertEqual(explorer.table, ("table", 3, ((0, 1), (1,), ())))
        self.assertEqual(explorer.accepted, ())

    def test_it_has_part_of_the_conclusion(self):
        explorer = Explorer(3, ())
        explorer.reject((2,))
        self.assertEqual(explorer.question(), ((), (2,)))

    def test_it_lacks_the_premise(self):
        explorer = Explorer(3, EXAMPLE[2])
        for row in ((), (0,), (1,), (0, 1)):
            self.assert_refused(explorer, row, "lacks the premise")

    def test_it_has_the_conclusion(self):
        explorer = Explorer(3, EXAMPLE[2])
        for row in ((0, 2), (0, 1, 2)):
            self.assert_refused(explorer, row, "has the conclusion")
        explorer.reject((1, 2))
        self.assertEqual(explorer.table, ("table", 3, (*EXAMPLE[2], (1, 2))))

    def test_it_breaks_the_first_or_a_later_one(self):
        explorer = Explorer(4, ((), (2, 3), (1, 2)))
        self.assertEqual(explorer.question(), ((3,), (2,)))
        explorer.accept()
        self.assertEqual(explorer.question(), ((1,), (2,)))
        self.assert_refused(explorer, (1, 3), "breaks 0")
        explorer.accept()
        self.assertEqual(explorer.question(), ((1, 2, 3), (0,)))
        explorer.accept()
        self.assertEqual(explorer.question(), ((0,), (1, 2, 3)))
        self.assert_refused(explorer, (0, 3), "breaks 0")
        self.assert_refused(explorer, (0, 1), "breaks 1")
        # It breaks 1, too.
        self.assert_refused(explorer, (0, 1, 3), "breaks 0")
        self.assert_refused(explorer, (0, 1, 2, 3), "has the conclusion")
        self.assert_refused(explorer, (1, 2, 3), "lacks the premise")
        explorer.reject((0, 1, 2))
        self.assertEqual(explorer.table[2], ((), (2, 3), (1, 2), (0, 1, 2)))

    def test_it_breaks_only_the_last_one(self):
        explorer = Explorer(3, ((), ()))
        explorer.accept()
        explorer.accept()
        self.assertEqual(explorer.question(), ((0,), (1, 2)))
        self.assert_refused(explorer, (0, 1), "breaks 1")
        self.assert_refused(explorer, (0, 2), "breaks 0")

    def test_no_question_comes_first(self):
        explorer = Explorer(2, ())
        explorer.accept()
        for row in sets_below(2):
            self.assert_refused(explorer, row, "no question")

    def test_after_a_refused_row_it_goes_on(self):
        explorer = Explorer(2, ())
        self.assert_refused(explorer, (0, 1), "has the conclusion")
        explorer.reject((0,))
        explorer.accept()
        self.assertEqual(state(explorer), (("table", 2, ((0,),)), (((), (0,)),), None))


class AllAnswersTest(ExplorerCase):
    """[x2]: whatever is answered"""

    def assert_all_answers(self, explorer):
        self.assert_state(explorer)
        for row in sets_below(explorer.table[1]):
            reason = reason_by(explorer, row)
            if reason is not None:
                self.assert_refused(explorer, row, reason)
        if explorer.question() is None:
            self.assert_not_accepted(explorer)
            self.assertEqual(explorer.accepted, stem(explorer.table))
            return 1
        return sum(self.assert_all_answers(other) for other in self.followers(explorer))

    def followers(self, explorer):
        """Return the explorers that come of each right answer."""
        found = [copied(explorer)]
        found[0].accept()
        self.assertEqual(found[0].accepted, (*explorer.accepted, explorer.question()))
        self.assertEqual(found[0].table, explorer.table)
        for row in sets_below(explorer.table[1]):
            if reason_by(explorer, row) is None:
                found.append(copied(explorer))
                found[-1].reject(row)
                self.assertEqual(found[-1].table, ("table", explorer.table[1], (*explorer.table[2], row)))
                self.assertEqual(found[-1].accepted, explorer.accepted)
        return found

    def test_of_up_to_two_marks(self):
        for many in range(3):
            for rows in ((), (tuple(range(many)),), ((), ())):
                self.assertGreater(self.assert_all_answers(Explorer(many, rows)), 0)

    def test_of_three_marks(self):
        for rows in (((0, 1), (1, 2)), ((), (0, 2)), ((1,),)):
            self.assertGreater(self.assert_all_answers(Explorer(3, rows)), 10)


class ExploreTest(ExplorerCase):
    """explore: a world answers"""

    def assert_explored(self, many, rows, world):
        found = explore(many, rows, world)
        self.assertIs(type(found), tuple)
        accepted, table = found
        self.assert_table(table)
        self.assert_implications(accepted, many)
        self.assertEqual(accepted, stem(table))
        self.assertEqual(table, self.answered(many, rows, world))
        return found

    def answered(self, many, rows, world):
        """Return the table in the end, by a search for each question."""
        table, accepted = ("table", many, rows), ()
        while (asked := least_missing(table, accepted)) is not None:
            breakers = [row for row in world[2] if not has_kept(row, asked)]
            if breakers:
                table = ("table", many, (*table[2], breakers[0]))
            else:
                accepted = (*accepted, asked)
        return table

    def test_the_example(self):
        accepted, table = explore(3, (), EXAMPLE)
        self.assertEqual(accepted, (((2,), (0,)),))
        self.assertEqual(table, ("table", 3, ((0, 1), (0, 2), (1,))))

    def test_the_row_of_the_least_thing_that_breaks_it(self):
        world = ("table", 2, ((0, 1), (1,), (0,), ()))
        self.assertEqual(explore(2, (), world), ((), ("table", 2, ((1,), (0,)))))
        self.assertEqual(explore(2, (), ("table", 2, world[2][::-1])), ((), ("table", 2, ((), (1,), (0,)))))
        # The thing 2 breaks the first questions, too, but it is not the least one that does.
        world = ("table", 3, ((0, 1), (1, 2), ()))
        self.assertEqual(explore(3, (), world)[1], ("table", 3, ((0, 1), (1, 2), ())))

    def test_worlds_without_things_or_marks(self):
        self.assertEqual(explore(3, (), NO_THINGS), ((((), (0, 1, 2)),), NO_THINGS))
        self.assertEqual(explore(0, (), NO_MARKS), ((), NEITHER))
        self.assertEqual(explore(0, ((),), NEITHER), ((), ("table", 0, ((),))))

    def test_rows_that_the_world_does_not_have(self):
        self.assertEqual(explore(2, ((0,),), ("table", 2, ())), ((((), (0,)),), ("table", 2, ((0,),))))
        self.assertEqual(explore(2, ((0,), (1,)), ("table", 2, ((0, 1),))), ((), ("table", 2, ((0,), (1,)))))
        for table in SMALL[::29]:
            for world in SMALL[::31]:
                if table[1] == world[1]:
                    self.assert_explored(table[1], table[2], world)

    def test_what_the_world_keeps_is_what_follows(self):
        for world in SMALL[::3]:
            for rows in ((), world[2][1:], world[2]):
                accepted, _ = self.assert_explored(world[1], rows, world)
                for implication in implications_below(world[1])[::2]:
                    kept = all(has_kept(row, implication) for row in world[2])
                    self.assertEqual(follows(accepted, implication, world[1]), kept)

    def test_five_marks(self):
        for world in WORLDS:
            for rows in ((), world[2][:2], world[2][-2:], ((0, 1, 2, 3, 4), (0, 1, 2, 3, 4))):
                accepted, table = self.assert_explored(5, rows, world)
                self.assertEqual(table[2][:len(rows)], rows)
                for marks in sets_below(5):
                    self.assertEqual(closure_of(table, marks), closure_of(("table", 5, rows + world[2]), marks))

    def test_tables_grow_beyond_eight_things(self):
        # The premise itself is a row that rejects: so each set is closed in the end.
        explorer = Explorer(5, tuple(sets_below(5)[:12]))
        while explorer.question() is not None:
            premise, _ = explorer.question()
            explorer.reject(premise)
        self.assertGreater(len(explorer.table[2]), 12)
        self.assertEqual(explorer.accepted, ())
        self.assertEqual(stem(explorer.table), ())
        for marks in sets_below(5):
            self.assertEqual(closure_of(explorer.table, marks), marks)


if __name__ == "__main__":
    unittest.main()

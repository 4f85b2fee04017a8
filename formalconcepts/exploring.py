"""Explorers: an expert is asked question by question."""

from formalconcepts.errors import AnswerFault
from formalconcepts.implications import broken_by, first_broken, first_missing
from formalconcepts.sets import is_part


class Explorer:
    """What is known of an expert's world: rows of things, and implications that were accepted."""

    def __init__(self, many, rows):
        self.table = ("table", many, rows)
        self.accepted = ()

    def question(self):
        """Return the implication that is asked for, None if there is none."""
        return first_missing(self.table, self.accepted)

    def accept(self):
        """Take the question; raise AnswerFault if there is none."""
        asked = self.question()
        if asked is None:
            raise AnswerFault("no question")
        self.accepted = (*self.accepted, asked)

    def reject(self, row):
        """Take the row of a thing that breaks the question; raise AnswerFault if it can't be that."""
        reason = reason_against(row, self.question(), self.accepted)
        if reason is not None:
            raise AnswerFault(reason)
        _, many, rows = self.table
        self.table = ("table", many, (*rows, row))


def reason_against(row, asked, accepted):
    """Return why a row does not reject what is asked, None if it does."""
    if asked is None:
        return "no question"
    premise, conclusion = asked
    if not is_part(premise, row):
        return "lacks the premise"
    if is_part(conclusion, row):
        return "has the conclusion"
    number = first_broken(accepted, row)
    if number is not None:
        return f"breaks {number}"
    return None


def explore(many, rows, world):
    """Return what is accepted, and the table, when a table has answered all questions."""
    explorer = Explorer(many, rows)
    asked = explorer.question()
    while asked is not None:
        thing = broken_by(world, asked)
        if thing is None:
            explorer.accept()
        else:
            explorer.reject(world[2][thing])
        asked = explorer.question()
    return (explorer.accepted, explorer.table)

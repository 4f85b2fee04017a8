"""Implications: what keeps them, what follows from them, and bases of a table."""

from formalconcepts.lectic import all_sets
from formalconcepts.sets import are_numbers, is_part, lacking, united
from formalconcepts.tables import closure


def keeps(marks, implication):
    """Tell whether a set of marks keeps an implication."""
    premise, conclusion = implication
    return not is_part(premise, marks) or is_part(conclusion, marks)


def broken_by(table, implication):
    """Return the least thing that does not keep an implication, None if all do."""
    for thing, row in enumerate(table[2]):
        if not keeps(row, implication):
            return thing
    return None


def first_broken(implications, marks):
    """Return the number of the first implication that some marks do not keep, None if they keep all."""
    for number, implication in enumerate(implications):
        if not keeps(marks, implication):
            return number
    return None


def closed_under(implications, marks):
    """Return the least set that has some marks and keeps all implications."""
    number = first_broken(implications, marks)
    while number is not None:
        marks = united(marks, implications[number][1])
        number = first_broken(implications, marks)
    return marks


def derivation(implications, implication):
    """Return a derivation of an implication from some others, None if it does not follow."""
    marks, conclusion = implication
    numbers = []
    while not is_part(conclusion, marks):
        # What the marks do not keep has its premise among them, and gives more.
        number = first_broken(implications, marks)
        if number is None:
            return None
        numbers.append(number)
        marks = united(marks, implications[number][1])
    return tuple(numbers)


def is_derivation(implications, implication, numbers):
    """Tell whether a value is a derivation of an implication from some others."""
    if not are_numbers(numbers, len(implications)):
        return False
    marks, conclusion = implication
    for number in numbers:
        premise, more = implications[number]
        if not is_part(premise, marks):
            return False
        marks = united(marks, more)
    return is_part(conclusion, marks)


def is_base(table, implications):
    """Tell whether some implications are a base of a table."""
    if any([broken_by(table, implication) is not None for implication in implications]):
        return False
    # All that the table keeps follows just if each set that keeps these is closed:
    # a closed set keeps all that the table keeps, and the table keeps what leads
    # from a set to its closure.
    return first_missing(table, implications) is None


def first_missing(table, implications):
    """Return the first implication that a table keeps and that some others do not tell.

    It leads from the least set in lectic order that keeps those and is not closed
    to what its closure has more. None if there is no such set.
    """
    for marks in all_sets(table[1]):
        if first_broken(implications, marks) is None:
            more = beyond(table, marks)
            if more != ():
                return (marks, more)
    return None


def beyond(table, marks):
    """Return what the closure of some marks has more."""
    return lacking(closure(table, marks), marks)
